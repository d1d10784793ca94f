"""The rows that a desk takes."""

from fairsearch.errors import NoText
from fairsearch.goaltexts import read_named, read_relation
from fairsearch.readers import are_figures
from fairsearch.terms import is_word

MOST_TAKEN = 50


def read_row(row):
    """The deed that the row says, or the word of what it asks and perhaps a name; NoText where it is no row."""
    word, blank, rest = row.partition(" ")
    if row in ("names", "titles"):
        return (row,)
    if word == "put":
        return ("put", tuple([read_relation(part) for part in rest.split(" / ")]))
    if word == "begin":
        title, names, goal = read_named(rest)
        return ("begin", title, names, goal)
    if word == "go":
        return read_go(rest)
    if word in ("drop", "end", "relation", "turns") and is_word(rest):
        return (word, rest)
    raise NoText(row)


def read_go(text):
    title, blank, figures = text.partition(" ")
    if not is_word(title) or not are_figures(figures) or len(figures) > 2 or int(figures) > MOST_TAKEN:
        raise NoText(text)
    return ("go", title, int(figures))
