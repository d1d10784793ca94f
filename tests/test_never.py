import copy
import unittest
from random import Random

from making import Maker
from oracles import is_pair, is_unknown, unknown_set
from samples import LONG, grown, heads_within, listed, unknown
from spoiling import ANYTHING, deep_tuple, spoilt, spoilt_twice
from test_fillings import MADE_ALIKE, NOTHING

from fairsearch.fillings import alike
from fairsearch.never import never
from fairsearch.neverchecks import never_holds

GIVEN = ("given",)


def is_number_of(thing, many):
    return type(thing) is int and 0 <= thing < many


def equation(step, shown, one, other):
    """What a step shows, by the clauses of the document; None where it is none that shows something."""
    if type(step) is not tuple or not step or type(step[0]) is not str:
        return None
    word, *numbers = step
    if not all(is_number_of(number, len(shown)) for number in numbers):
        return None
    if word == "given" and numbers == []:
        return (one, other)
    if word == "turn" and len(numbers) == 1:
        return shown[numbers[0]][::-1]
    if word == "through" and len(numbers) == 2:
        (a, b), (c, d) = shown[numbers[0]], shown[numbers[1]]
        return (a, d) if b == c else None
    if word in ("heads", "rests") and len(numbers) == 1:
        at = ("heads", "rests").index(word)
        a, b = shown[numbers[0]]
        return (a[at], b[at]) if is_pair(a) and is_pair(b) else None
    return None


def ring_closes(step, shown):
    if type(step) is not tuple or len(step) != 2 or step[0] != "ring" or type(step[1]) is not tuple or not step[1]:
        return False
    if not all(is_number_of(number, len(shown)) for number in step[1]):
        return False
    ring = [shown[number] for number in step[1]]
    if not all(is_unknown(u) and is_pair(p) for u, p in ring):
        return False
    return all(ring[(at + 1) % len(ring)][0][1] in unknown_set(ring[at][1]) for at in range(len(ring)))


def by_clauses(one, other, thing):
    if type(thing) is not tuple or not thing:
        return False
    shown = []
    for step in thing[:-1]:
        shown.append(equation(step, shown, one, other))
        if shown[-1] is None:
            return False
    if ring_closes(thing[-1], shown):
        return True
    last = equation(thing[-1], shown, one, other)
    if last is None or is_unknown(last[0]) or is_unknown(last[1]):
        return False
    return not (is_pair(last[0]) and is_pair(last[1])) and last[0] != last[1]


X, Y, Z = unknown(0), unknown(1), unknown(2)

# One, other, a paper written by hand that shows that nothing makes them alike.
BY_HAND = [
    (1, 2, (GIVEN,)),
    ("a", (), (GIVEN,)),
    ((), (1, 2), (GIVEN,)),
    ((1, 2), "a", (GIVEN, ("turn", 0))),
    ((1, X), (2, Y), (GIVEN, ("heads", 0))),
    ((X, 1), (Y, 2), (GIVEN, ("rests", 0))),
    (((X, 1), Y), ((X, "a"), Z), (GIVEN, ("heads", 0), ("rests", 1))),
    ((X, X), (1, 2), (GIVEN, ("heads", 0), ("rests", 0), ("turn", 1), ("through", 3, 2))),
    ((X, X), (1, 2), (GIVEN, ("rests", 0), ("heads", 0), ("turn", 1), ("through", 3, 2))),
    (listed(X, Y, X), listed(Y, 1, 2),
     (GIVEN, ("heads", 0), ("rests", 0), ("heads", 2), ("rests", 2), ("heads", 4), ("through", 1, 3), ("turn", 5),
      ("through", 7, 6))),
    (X, (X, 1), (GIVEN, ("ring", (0,)))),
    (X, (X, 1), (GIVEN, ("ring", (0, 0)))),
    (X, (X, 1), (GIVEN, GIVEN, ("ring", (0, 1)))),
    (X, listed(1, 2, listed(X)), (GIVEN, ("ring", (0,)))),
    ((X, 1), X, (GIVEN, ("turn", 0), ("ring", (1,)))),
    ((X, Y), ((1, Y), (X, 1)), (GIVEN, ("heads", 0), ("rests", 0), ("ring", (1, 2)))),
    ((X, Y), ((1, Y), (X, 1)), (GIVEN, ("heads", 0), ("rests", 0), ("ring", (2, 1)))),
    ((X, Y), ((1, Y), (X, 1)), (GIVEN, ("heads", 0), ("rests", 0), ("ring", (2, 1, 2, 1)))),
    ((X, X), (Y, (Y, 1)), (GIVEN, ("heads", 0), ("rests", 0), ("turn", 1), ("through", 3, 2), ("ring", (4,)))),
    (listed(X, Y, Z), listed((Y, 1), (Z, 1), (X, 1)),
     (GIVEN, ("heads", 0), ("rests", 0), ("heads", 2), ("rests", 2), ("heads", 4), ("ring", (1, 3, 5)))),
]

# The same with what doesn't do.
NO_PAPERS = [
    (1, 2, ()),
    (1, 1, (GIVEN,)),
    (X, 1, (GIVEN,)), (1, X, (GIVEN,)), (X, Y, (GIVEN,)),
    ((1, 2), (1, 3), (GIVEN,)),
    ((1, 2), (1, 3), (GIVEN, ("heads", 0))),
    ((1, 2), (1, 3), (GIVEN, ("rests", 0), ("heads", 0))),
    ((1, 2), (1, 3), (GIVEN, ("rests", 0), GIVEN)),
    (1, 2, (("given", 0),)), (1, 2, ("given",)), (1, 2, (["given"],)), (1, 2, [GIVEN]), (1, 2, (("given",), ())),
    (1, 2, (GIVEN, ("turn", 1))), (1, 2, (GIVEN, ("turn", -1))), (1, 2, (GIVEN, ("turn", False))),
    (1, 2, (GIVEN, ("turn",))), (1, 2, (GIVEN, ("turn", 0, 0))), (1, 2, (("turn", 0), GIVEN)),
    (1, 2, (GIVEN, ("heads", 0))), (1, 2, (GIVEN, ("through", 0, 0))), (1, 2, (GIVEN, ("heads", 0), GIVEN)),
    (X, (X, 1), (GIVEN,)), (X, (X, 1), (("ring", (0,)),)), (X, (X, 1), (("ring", (0,)), GIVEN)),
    (X, (X, 1), (GIVEN, ("ring", ()))), (X, (X, 1), (GIVEN, ("ring", [0]))), (X, (X, 1), (GIVEN, ("ring", 0))),
    (X, (X, 1), (GIVEN, ("ring", (False,)))), (X, (X, 1), (GIVEN, ("ring", (1,)))), (X, (X, 1), (GIVEN, ("ring", (-1,)))),
    (X, (X, 1), (GIVEN, ("ring", (0,)), GIVEN)), (X, (X, 1), (GIVEN, ("ring", (0,), 0))), (X, (X, 1), (GIVEN, ("ring",))),
    ((X, 1), X, (GIVEN, ("ring", (0,)))),
    (X, (Y, 1), (GIVEN, ("ring", (0,)))),
    (X, X, (GIVEN, ("ring", (0,)))),
    ((X, Y), ((1, Y), (X, 1)), (GIVEN, ("heads", 0), ("rests", 0), ("ring", (1,)))),
    (listed(X, Y, Z), listed((Y, 1), (Z, 1), (X, 1)),
     (GIVEN, ("heads", 0), ("rests", 0), ("heads", 2), ("rests", 2), ("heads", 4), ("ring", (1, 5, 3)))),
    (listed(X, Y, Z), listed((Y, 1), (Z, 1), (X, 1)),
     (GIVEN, ("heads", 0), ("rests", 0), ("heads", 2), ("rests", 2), ("heads", 4), ("ring", (1, 3)))),
    (listed(X, X), listed((Y, 1), (Z, 1)),
     (GIVEN, ("heads", 0), ("rests", 0), ("heads", 2), ("turn", 1), ("through", 4, 3))),
]


def ring_of(many):
    """Two lists whose first ones make a ring of so many unknowns, and its paper without the last step."""
    one = listed(*[unknown(n) for n in range(many)])
    other = listed(*[(n, unknown((n + 1) % many)) for n in range(many)])
    steps = [GIVEN]
    numbers = []
    whole = 0
    for _ in range(many):
        steps += [("heads", whole), ("rests", whole)]
        numbers.append(len(steps) - 2)
        whole = len(steps) - 1
    return one, other, tuple(steps), tuple(numbers)


class NeverHolds(unittest.TestCase):
    def test_by_hand(self):
        for one, other, paper in BY_HAND:
            with self.subTest(paper):
                self.assertIs(never_holds(one, other, paper), True)
                self.assertIs(by_clauses(one, other, paper), True)
                self.assertIsNone(alike(one, other))

    def test_what_does_not_do(self):
        for one, other, paper in NO_PAPERS:
            with self.subTest(paper):
                self.assertIs(never_holds(one, other, paper), False)
                self.assertIs(by_clauses(one, other, paper), False)

    def test_of_other_terms(self):
        for one, other, paper in BY_HAND:
            for first, second in ((one, one), (X, other), (unknown(9), unknown(8)), (1, 1)):
                self.assertIs(never_holds(first, second, paper), by_clauses(first, second, paper))
            if alike(one, one[::-1] if is_pair(one) else one) is not None:
                self.assertIs(never_holds(one, one, paper), False)

    def test_rings(self):
        for many in (2, 3, 7, 25):
            one, other, steps, ring = ring_of(many)
            self.assertIs(never_holds(one, other, (*steps, ("ring", ring))), True)
            for at in range(many):
                turned = ring[at:] + ring[:at]
                self.assertIs(never_holds(one, other, (*steps, ("ring", turned))), True)
                self.assertIs(never_holds(one, other, (*steps, ("ring", turned + turned))), True)
                self.assertIs(never_holds(one, other, (*steps, ("ring", turned[1:]))), False)
                self.assertIs(never_holds(one, other, (*steps, ("ring", turned + turned[:1]))), False)
                if many > 2:
                    self.assertIs(never_holds(one, other, (*steps, ("ring", turned[::-1]))), False)

    def test_long_papers(self):
        turns = tuple(("turn", at) for at in range(1600))
        self.assertIs(never_holds(1, 2, (GIVEN, *turns)), True)
        self.assertIs(never_holds(X, 2, (GIVEN, *turns)), False)
        self.assertIs(never_holds(1, 2, (GIVEN, *turns[:800], ("turn", 801), *turns[801:])), False)
        self.assertIs(never_holds(X, (X, 1), (GIVEN, ("ring", (0,) * 4000))), True)
        self.assertIs(never_holds(X, (X, 1), (GIVEN, ("ring", (0,) * 3999 + (1,)))), False)
        term = grown(300, 30, lambda at: unknown(at % 3))
        throughs = tuple(("through", at, 0) for at in range(1, 1200))
        self.assertIs(never_holds((term, 1), (term, 2), (GIVEN, ("heads", 0), *throughs)), False)
        self.assertIs(never_holds((term, 1), (term, 2), (GIVEN, ("heads", 0), *[("through", 1, 1)] * 1200, ("rests", 0))),
                      True)

    def test_spoilt_at_one_place_and_at_two(self):
        rng = Random(7)
        told = {True: 0, False: 0}
        for one, other, paper in BY_HAND:
            for thing in [*spoilt(paper), *spoilt_twice(paper, rng, 300)]:
                right = by_clauses(one, other, thing)
                told[right] += 1
                self.assertIs(never_holds(one, other, thing), right, thing)
        self.assertTrue(min(told.values()) > 100, told)

    def test_words_exchanged(self):
        words = ("given", "turn", "through", "heads", "rests", "ring", "clash", "")
        for one, other, paper in BY_HAND:
            for at, step in enumerate(paper):
                for word in words:
                    thing = (*paper[:at], (word, *step[1:]), *paper[at + 1:])
                    self.assertIs(never_holds(one, other, thing), by_clauses(one, other, thing))

    def test_of_anything(self):
        for thing in [*ANYTHING, (GIVEN, [[]]), (GIVEN, {}), (([], 0),), (({}, 0),), ((GIVEN, GIVEN),), (deep_tuple(57),)]:
            before = copy.deepcopy(thing)
            for one, other in ((1, 2), (X, (X, 1)), (X, Y), ((1, 2), (X, 3))):
                self.assertIs(never_holds(one, other, thing), by_clauses(one, other, thing))
            self.assertEqual(repr(thing), repr(before))


class Never(unittest.TestCase):
    def check(self, one, other):
        paper = never(one, other)
        self.assertEqual(paper is None, alike(one, other) is not None, (one, other))
        if paper is not None:
            self.assertIsInstance(paper, tuple)
            self.assertIs(by_clauses(one, other, paper), True, (one, other, paper))
            self.assertIs(never_holds(one, other, paper), True)
        self.assertEqual(paper, never(one, other))
        return paper

    def test_none_where_they_can_be_made_alike(self):
        for one, other, told in MADE_ALIKE:
            self.assertIsNone(self.check(one, other))

    def test_a_paper_where_nothing_does(self):
        for one, other in NOTHING:
            self.assertIsNotNone(self.check(one, other))
            self.assertIsNotNone(self.check(other, one))
        for one, other, paper in BY_HAND:
            self.assertIsNotNone(self.check(one, other))

    def test_just_where_alike_tells_none(self):
        ends = {"none": 0, "ring": 0, "clash": 0}
        for seed in range(900):
            maker = Maker(seed, unknowns=2 + seed % 7, atoms=(0, "a") if seed % 2 else (0, 0, 0))
            paper = self.check(maker.term(3 + seed % 4), maker.term(3 + seed % 4))
            ends["none" if paper is None else "ring" if paper[-1][0] == "ring" else "clash"] += 1
        self.assertTrue(min(ends.values()) > 30, ends)

    def test_long_rings_and_rows_of_unknowns(self):
        for many in (1, 2, 3, 12, 28):
            one, other, steps, ring = ring_of(many)
            self.assertEqual(self.check(one, other)[-1][0], "ring")
            row = listed(*[unknown(n) for n in range(many)])
            following = listed(*[unknown(n + 1) for n in range(many)])
            self.assertIsNone(self.check(row, following))
            self.assertIsNotNone(self.check((row, (unknown(0), unknown(many))), (following, (1, 2))))
            self.assertIsNotNone(self.check((row, unknown(0)), (following, listed(1, unknown(many)))))

    def test_rings_through_pairs_that_are_alike(self):
        one = listed(unknown(0), unknown(0), unknown(1))
        other = listed((unknown(1), 1), (unknown(2), unknown(3)), ((unknown(4), 5), unknown(0)))
        self.assertEqual(self.check(one, other)[-1][0], "ring")

    def test_great_ones(self):
        for seed in range(8):
            maker = Maker(seed, unknowns=40)
            leaves = [maker.leaf() for _ in range(300)]
            one = grown(300, 30, lambda at: leaves[at])
            other = grown(300, 30, lambda at: leaves[-at])
            self.check(one, other)
            self.check((one, 1), (other, unknown(0)))
        self.assertIsNotNone(self.check(heads_within(30, LONG), heads_within(30, LONG + 1)))
        self.assertIsNotNone(self.check(heads_within(30, unknown(1)), heads_within(29, unknown(1))))

    def test_great_on_the_way(self):
        many = 18
        one = listed(*[unknown(n + 1) for n in range(many)])
        other = listed(*[(unknown(n), unknown(n)) for n in range(many)])
        twin = listed(*[unknown(101 + n) for n in range(many)])
        copied = listed(*[(unknown(100 + n), unknown(100 + n)) for n in range(many)])
        self.assertIsNotNone(self.check(listed(one, twin, unknown(many), (unknown(0), unknown(100))),
                                        listed(other, copied, unknown(100 + many), (1, 2))))

    def test_what_was_told_handed_in_again(self):
        told = alike(grown(300, 30, unknown), grown(300, 30, lambda at: unknown(at + 40)))
        terms = [term for n, term in told]
        self.check((terms[0], terms[-1]), (terms[-1], (terms[0], 1)))


if __name__ == "__main__":
    unittest.main()
