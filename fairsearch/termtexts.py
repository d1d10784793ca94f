"""Terms and fillings as texts, and the terms that texts write."""

from fairsearch.readers import Reader
from fairsearch.terms import is_marked, is_pair, parted


def show_term(term):
    if is_marked(term):
        return f"?{term[1]}"
    if is_pair(term):
        return show_pair(term)
    return "()" if term == () else str(term)


def show_pair(pair):
    heads, end = parted(pair)
    shown = " ".join([show_term(head) for head in heads])
    if end == ():
        return f"({shown})"
    return f"({shown} . {show_term(end)})"


def read_term(text):
    """The term that show_term writes so; NoText where it writes none so."""
    reader = Reader(text)
    term = reader.next_term()
    reader.expect_end()
    return term


def show_filling(filling):
    return ", ".join([f"?{number} = {show_term(term)}" for number, term in filling])
