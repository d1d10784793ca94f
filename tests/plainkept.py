"""A plain second way to kept calls: all calls are asked again and again, by what was kept so far, till nothing is new."""

from plainsearch import with_known
from samples import depth, listed, parts, unknown

from fairsearch.fillings import alike, put_in
from fairsearch.terms import renamed, unknowns_in


class TooMuch(Exception):
    """More calls and answers came than were let, or terms became too great."""


def heads(term):
    return () if term == () else (term[0], *heads(term[1]))


class PlainKept:
    def __init__(self, program, most):
        self.relations = {row[0]: row[1:] for row in program}
        self.most = most
        self.calls = {}

    def answers(self, names, goal):
        """The terms of all answers, a set."""
        known = {name: unknown(at) for at, name in enumerate(names)}
        asked = listed(*known.values())
        while True:
            before = self.counted()
            found = set(self.told(goal, known, asked, len(names)))
            for name, terms in list(self.calls):
                own, inner = self.relations[name]
                many = len(unknowns_in(listed(*terms)))
                told = self.told(inner, dict(zip(own, terms)), listed(*terms), many)
                self.calls[name, terms] |= set(told)
                self.refuse_many()
            if self.counted() == before:
                return found

    def counted(self):
        return len(self.calls) + sum(len(answers) for answers in self.calls.values())

    def refuse_many(self):
        if self.counted() > self.most:
            raise TooMuch

    def told(self, goal, known, asked, many):
        for filling, *rest in self.ways([(goal, known)], (), many):
            yield heads(renamed((put_in(asked, filling),))[0])

    def ways(self, goals, filling, many):
        """The fillings by which the goals hold, by what is kept of the calls in them."""
        if not goals:
            yield filling, many
            return
        (word, *told), known = goals[0]
        rest = goals[1:]
        if word == "same":
            following = alike(with_known(told[0], known), with_known(told[1], known), filling)
            if following is not None:
                yield from self.ways(rest, following, many)
        elif word == "both":
            yield from self.ways([(part, known) for part in told[0]] + rest, filling, many)
        elif word == "either":
            for part in told[0]:
                yield from self.ways([(part, known)] + rest, filling, many)
        elif word == "fresh":
            own = {name: unknown(many + at) for at, name in enumerate(told[0])}
            yield from self.ways([(told[1], {**known, **own})] + rest, filling, many + len(own))
        else:
            terms = [with_known(term, known) for term in told[1]]
            asked = put_in(listed(*terms), filling)
            if parts(asked) > 1300 or depth(asked) > 60:
                raise TooMuch
            key = (told[0], heads(renamed((asked,))[0]))
            self.calls.setdefault(key, set())
            self.refuse_many()
            for answer in sorted(self.calls[key], key=repr):
                new = unknowns_in(listed(*answer))
                table = {n: unknown(many + at) for at, n in enumerate(new)}
                following = alike(listed(*terms), put_in(listed(*answer), tuple(sorted(table.items()))), filling)
                if following is not None:
                    yield from self.ways(rest, following, many + len(new))
