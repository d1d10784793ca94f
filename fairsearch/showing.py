"""Answers as they are shown: which values they cover, and how they are written."""

from fairsearch.fillings import is_filling
from fairsearch.limits import limit_lines, sides_of
from fairsearch.stores import Store
from fairsearch.terms import is_atom, is_term, is_tuple_of, is_whole, joined
from fairsearch.termtexts import show_term
from fairsearch.worlds import ground_terms


def is_shown(thing):
    """Whether it has the form of what is shown: terms, rows, kinds and absents."""
    if not is_tuple_of(thing, 4) or not all([isinstance(part, tuple) for part in thing]):
        return False
    terms, rows, kinds, absents = thing
    if not all([is_term(term) for term in terms]) or not all([is_filling(row) for row in rows]):
        return False
    if not all([is_tuple_of(row, 2) and is_whole(row[0]) for row in [*kinds, *absents]]):
        return False
    return all([row[1] in ("number", "word") for row in kinds]) and all([is_atom(row[1]) for row in absents])


def covers(shown, values):
    """Whether some ground terms for the answer's unknowns make its terms these, and let its limits be."""
    # The values first: what the limits say is then plain at once.
    store = Store().same(joined(shown[0], ()), joined(values, ()))
    return with_limits(store, shown) is not None


def covered(shown):
    """Some ground terms that the answer covers."""
    terms, rows, kinds, absents = shown
    return ground_terms(terms, rows, kinds, absents)


def with_limits(store, shown):
    """The Store, or none, with the answer's rows, kinds and absents said to it, or None where it has no world then."""
    terms, rows, kinds, absents = shown
    for row in rows:
        unknowns, filled = sides_of(row)
        store = None if store is None else store.unlike(unknowns, filled)
    for number, kind in kinds:
        store = None if store is None else with_kind_said(store, number, kind)
    for number, atom in absents:
        store = None if store is None else store.absent(atom, ("?", number))
    return store


def with_kind_said(store, number, kind):
    return store.number(("?", number)) if kind == "number" else store.word(("?", number))


def show_answer(shown):
    terms, rows, kinds, absents = shown
    written = " ".join([show_term(term) for term in terms])
    limits = limit_lines(rows, kinds, absents)
    return written if limits == [] else f"{written} | " + "; ".join(limits)
