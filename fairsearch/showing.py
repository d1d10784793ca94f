"""Answers as they are shown: which values they cover, and how they are written."""

from fairsearch.limits import limit_lines, sides_of
from fairsearch.stores import Store
from fairsearch.terms import joined
from fairsearch.termtexts import show_term


def covers(shown, values):
    """Whether some ground terms for the answer's unknowns make its terms these, and let its limits be."""
    # The values first: what the limits say is then plain at once.
    store = Store().same(joined(shown[0], ()), joined(values, ()))
    return with_limits(store, shown) is not None


def covered(shown):
    """Some ground terms that the answer covers."""
    return with_limits(Store(), shown).world(shown[0])


def with_limits(store, shown):
    """The Store, or none, with the answer's rows, kinds and absents said to it, or None where it has no world then."""
    terms, rows, kinds, absents = shown
    for row in rows:
        unknowns, filled = sides_of(row)
        store = None if store is None else store.unlike(unknowns, filled)
    for number, kind in kinds:
        store = None if store is None else with_kind_said(store, number, kind)
    for number, atom in absents:
        store = None if store is None else store.absent(atom, ("?", number))
    return store


def with_kind_said(store, number, kind):
    return store.number(("?", number)) if kind == "number" else store.word(("?", number))


def show_answer(shown):
    terms, rows, kinds, absents = shown
    written = " ".join([show_term(term) for term in terms])
    limits = limit_lines(rows, kinds, absents)
    return written if limits == [] else f"{written} | " + "; ".join(limits)
