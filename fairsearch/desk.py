"""A desk: a Shelf by rows of text."""

from fairsearch.deskrows import read_row
from fairsearch.errors import NoRow, NoText
from fairsearch.goaltexts import show_relation
from fairsearch.shelves import Shelf
from fairsearch.showing import show_answer


class Desk:
    def __init__(self):
        self.shelf = Shelf()
        self.lines = []

    def say(self, text):
        self.lines = []
        if not isinstance(text, str):
            raise NoRow(0)
        for at, row in enumerate(text.split("\n")):
            self.lines.append(self.line_for(row_at(at, row)))
        return "\n".join(self.lines)

    def said(self):
        """The lines for those rows of the last text that were done."""
        return tuple(self.lines)

    def line_for(self, row):
        word = row[0]
        if word == "names":
            return " ".join(self.shelf.names()) or "()"
        if word == "titles":
            return " ".join(self.shelf.titles()) or "()"
        if word == "relation":
            return show_relation(self.shelf.relation(row[1]))
        if word == "turns":
            return str(self.shelf.turns(row[1]))
        told = self.shelf.do(row)
        return answers_line(told) if word == "go" else "ok"


def row_at(at, row):
    try:
        return read_row(row)
    except NoText:
        raise NoRow(at) from None


def answers_line(answers):
    # An answer to a question without names is written as the empty text, so the text doesn't tell whether there is one.
    return "()" if answers == () else " / ".join([show_answer(shown) for path, shown in answers])
