"""A plain second way through a question: branches with Stores, in rounds, word by word as the document tells."""

from oracles import is_pair, is_unknown
from samples import depth, listed, parts, unknown

from fairsearch.fillings import alike, put_in
from fairsearch.stores import Store
from fairsearch.terms import renamed, unknowns_in
from fairsearch.termtexts import show_filling


def with_known(term, known):
    if is_unknown(term):
        return known[term[1]]
    if is_pair(term):
        return (with_known(term[0], known), with_known(term[1], known))
    return term


class TooGreat(Exception):
    """A term became greater than those of which anything is promised."""


def refuse_great(terms, filling):
    for term in terms:
        if parts(term) > 1300 or parts(put_in(term, filling)) > 1300 or depth(put_in(term, filling)) > 60:
            raise TooGreat


class PlainBranch:
    def __init__(self, path, store, goals, many):
        self.path, self.store, self.goals, self.many = path, store, goals, many

    def turn(self, program):
        """("answer", store), ("over", None) or ("parted", branches)."""
        store, goals, many = self.store, list(self.goals), self.many
        while goals:
            (word, *told), known = goals.pop(0)
            if word == "both":
                goals = [(part, known) for part in told[0]] + goals
            elif word == "fresh":
                known = {**known, **{name: unknown(many + at) for at, name in enumerate(told[0])}}
                many += len(told[0])
                goals = [(told[1], known)] + goals
            elif word in ("either", "call"):
                if word == "either":
                    ways = [(part, known) for part in told[0]]
                else:
                    names, goal = {row[0]: row[1:] for row in program}[told[0]]
                    terms = [with_known(term, known) for term in told[1]]
                    refuse_great(terms, store.filling())
                    ways = [(goal, dict(zip(names, terms)))]
                made = [PlainBranch((*self.path, at), store, [way] + goals, many) for at, way in enumerate(ways)]
                return ("parted", made) if made else ("over", None)
            else:
                terms = [with_known(part, known) for part in told]
                refuse_great(terms, store.filling())
                store = getattr(store, word)(*terms)
                if store is None:
                    return ("over", None)
        return ("answer", store)


def plain_shown(store, many):
    """What is shown of the first unknowns, so many."""
    filling = store.filling()
    filled = tuple(put_in(unknown(n), filling) for n in range(many))
    terms = renamed(filled)
    new = {old: at for at, old in enumerate(unknowns_in(listed(*filled)))}
    rows = []
    for row in store.rows():
        one, other = listed(*[unknown(n) for n, term in row]), listed(*[term for n, term in row])
        if set(unknowns_in((one, other))) <= set(new):
            table = {n: unknown(at) for n, at in new.items()}
            rows.append(alike(with_known(one, table), with_known(other, table)))
    rows.sort(key=show_filling)
    kinds = sorted((new[n], kind) for n, kind in store.kinds() if n in new)
    absents = sorted(((new[n], atom) for n, atom in store.absents() if n in new), key=lambda row: (row[0], str(row[1])))
    return (terms, tuple(rows), tuple(kinds), tuple(absents))


def first_plain(names, goal):
    known = {name: unknown(at) for at, name in enumerate(names)}
    return PlainBranch((), Store(), [(goal, known)], len(names))


class PlainSearch:
    """Rounds one after another: what came in each turn, and what is open behind it."""

    def __init__(self, program, names, goal):
        self.program, self.names = program, names
        self.round = [first_plain(names, goal)]
        self.coming = []
        self.turns, self.rounds = 0, 0

    def opened(self):
        return len(self.round) + len(self.coming)

    def turn(self):
        """(path, word, shown of an answer, else None)."""
        if not self.round:
            self.round, self.coming = self.coming, []
        branch = self.round.pop(0)
        self.turns += 1
        self.rounds = len(branch.path) + 1
        word, made = branch.turn(self.program)
        if word == "parted":
            self.coming += made
        return branch.path, word, plain_shown(made, len(self.names)) if word == "answer" else None


def plain_events(program, names, goal, most):
    """Of each turn, at most so many, and none behind a great term: its path, word, shown, what is open, and its round."""
    search = PlainSearch(program, names, goal)
    events = []
    try:
        while search.opened() and len(events) < most:
            path, word, shown = search.turn()
            events.append((path, word, shown, search.opened(), search.rounds))
    except TooGreat:
        pass
    return events
