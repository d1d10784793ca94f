"""Stores: what was said of unknowns, and what follows from it."""

from fairsearch.fillings import alike, put_in
from fairsearch.limits import absents_behind, kind_of, kinds_behind, least_rows, limit_lines, row_behind
from fairsearch.terms import is_unknown, leaves_of, unknowns_in
from fairsearch.termtexts import show_filling
from fairsearch.worlds import ground_terms


class Store:
    """It keeps no sayings, but what they come to, as that is the same in whatever order they were said."""

    def __init__(self):
        self.filled = ()
        self.sorts = ()
        self.missing = ()
        self.barred = ()

    def same(self, one, other):
        filled = alike(one, other, self.filled)
        if filled is None:
            return None
        rows = [row_behind(row, filled) for row in self.barred]
        if () in rows:
            return None
        return store_of(filled, self.sorts, self.missing, [row for row in rows if row is not None])

    def unlike(self, one, other):
        row = alike(put_in(one, self.filled), put_in(other, self.filled))
        if row == ():
            return None
        rows = self.barred if row is None else (*self.barred, row)
        return store_of(self.filled, self.sorts, self.missing, rows)

    def number(self, term):
        return with_kind(self, term, "number")

    def word(self, term):
        return with_kind(self, term, "word")

    def absent(self, atom, term):
        term = put_in(term, self.filled)
        if atom in leaves_of((term,)):
            return None
        added = [(number, atom) for number in unknowns_in(term)]
        return store_of(self.filled, self.sorts, (*self.missing, *added), self.barred)

    def world(self, terms):
        """What the terms are by some world."""
        filled = [put_in(term, self.filled) for term in terms]
        return ground_terms(filled, self.barred, self.sorts, self.missing)

    def filling(self):
        return self.filled

    def kinds(self):
        return self.sorts

    def absents(self):
        return self.missing

    def rows(self):
        return self.barred

    def __len__(self):
        return len(self.barred)

    def __eq__(self, other):
        return isinstance(other, Store) and told_by(self) == told_by(other)

    def __str__(self):
        return "; ".join(store_lines(self))


def store_of(filling, kinds, absents, rows):
    """The Store of these, kinds and absents as they were ahead of the filling, or None where it has no world."""
    kinds = kinds_behind(kinds, filling)
    if kinds is None:
        return None
    absents = absents_behind(absents, filling, kinds)
    if absents is None:
        return None
    store = Store()
    store.filled = filling
    store.sorts = kinds
    store.missing = absents
    store.barred = least_rows(rows, kinds, absents)
    return store


def with_kind(store, term, kind):
    term = put_in(term, store.filled)
    if not is_unknown(term):
        return None if kind_of(term) != kind else store_of(store.filled, store.sorts, store.missing, store.barred)
    return store_of(store.filled, (*store.sorts, (term[1], kind)), store.missing, store.barred)


def told_by(store):
    return (store.filled, store.sorts, store.missing, store.barred)


def store_lines(store):
    lines = limit_lines(store.barred, store.sorts, store.missing)
    return lines if store.filled == () else [show_filling(store.filled), *lines]
