import copy
import itertools
import unittest
from random import Random

from making import Maker
from oracles import all_tables, equations, holds, replace, solved, unknown_set
from samples import LONG, NO_TERMS, TERMS, grown, heads_within, listed, unknown
from spoiling import ANYTHING, spoilt, spoilt_twice

from fairsearch.fillings import alike, is_filling, put_in
from fairsearch.terms import is_term

FILLINGS = [
    (),
    ((0, 1),), ((0, "a"),), ((0, ()),), ((5, unknown(0)),), ((5, unknown(4)),), ((1, (unknown(0), unknown(0))),),
    ((0, (unknown(1), unknown(7))),), ((LONG, unknown(LONG - 1)),), ((0, -LONG),),
    ((0, 1), (1, 1)), ((0, listed(1, unknown(5))), (3, unknown(2)), (4, unknown(2)), (9, listed(unknown(8)))),
    ((1, unknown(0)), (2, unknown(0)), (3, (unknown(0), "a"))),
    tuple((n, unknown(0)) for n in range(1, 21)),
    tuple((n, listed(n, end=unknown(100 + n))) for n in range(20)),
]

NO_FILLINGS = [
    ((1, 1), (0, 1)), ((0, 1), (0, 1)), ((0, 1), (0, 2)), ((0, 1), (2, 1), (1, 1)),
    ((0, unknown(0)),), ((0, (1, unknown(0))),), ((3, listed(1, listed(unknown(3)))),),
    ((0, unknown(1)),), ((3, unknown(4)),), ((3, unknown(3)),),
    ((0, 1), (1, unknown(0))), ((1, unknown(0)), (2, unknown(1))), ((0, (unknown(2), 1)), (2, 5)),
    ((0, listed(1, 2, listed("a", end=unknown(7)))), (7, ())),
    ((True, 1),), ((False, 1),), ((0, True),), ((0, (1, False)),), ((0, ("?", True)),), ((5, ("?", True)),),
    ((-1, 1),), ((-LONG, 1),), (("a", 1),), ((None, 1),), (((), 1),), ((unknown(0), 1),), (("0", 1),),
    [], [(0, 1)], ([0, 1],), ((0, [1, 2]),), ((0, (1, [])),), {0: 1}, ({0: 1},), ((0, {}),),
    ((0,),), ((0, 1, 2),), ((),), (0, 1), 0, None, "", "?0 = 1", True, unknown(0), ((0, "A"),), ((0, "abcdefghi"),),
]


def by_clauses(thing):
    if type(thing) is not tuple or any(type(row) is not tuple or len(row) != 2 for row in thing):
        return False
    if any(type(n) is not int or n < 0 or not is_term(term) for n, term in thing):
        return False
    numbers = [n for n, term in thing]
    if sorted(set(numbers)) != numbers:
        return False
    if any(unknown_set(term) & set(numbers) for n, term in thing):
        return False
    return all(term[1] < n for n, term in thing if term and type(term) is tuple and term[0] == "?")


class IsFilling(unittest.TestCase):
    def test_fillings(self):
        for filling in FILLINGS:
            with self.subTest(filling):
                self.assertIs(is_filling(filling), True)

    def test_what_is_none(self):
        for thing in NO_FILLINGS:
            with self.subTest(thing):
                self.assertIs(is_filling(thing), False)

    def test_any_term_and_no_other_thing(self):
        for term in TERMS:
            right = LONG + 1 not in unknown_set(term)
            self.assertIs(is_filling(((LONG + 1, term),)), right)
        for thing in NO_TERMS:
            self.assertIs(is_filling(((LONG + 1, thing),)), False)
            self.assertIs(is_filling(((LONG + 1, (1, thing)),)), False)
            self.assertIs(is_filling(((0, 1), (LONG + 1, listed(1, thing)))), False)

    def test_an_n_at_any_depth_of_any_row(self):
        for deep in (2, 5, 30):
            for at in range(3):
                rows = [(4, 1), (5, "a"), (6, ())]
                rows[at] = (rows[at][0], heads_within(deep, unknown(3)))
                self.assertIs(is_filling(tuple(rows)), True)
                for own in (4, 5, 6):
                    rows[at] = (rows[at][0], heads_within(deep, unknown(own)))
                    self.assertIs(is_filling(tuple(rows)), False)
                    rows[at] = (rows[at][0], listed(*[1] * (deep - 1), end=unknown(own)))
                    self.assertIs(is_filling(tuple(rows)), False)

    def test_spoilt_at_one_place_and_at_two(self):
        rng = Random(6)
        told = set()
        for filling in FILLINGS:
            once = spoilt(filling) if len(filling) < 6 else []
            for thing in [*once, *spoilt_twice(filling, rng, 150)]:
                told.add(by_clauses(thing))
                self.assertIs(is_filling(thing), by_clauses(thing), thing)
        self.assertEqual(told, {True, False})

    def test_of_anything_and_nothing_is_changed(self):
        for thing in ANYTHING + NO_TERMS + TERMS + NO_FILLINGS:
            before = copy.deepcopy(thing)
            self.assertIs(is_filling(thing), by_clauses(thing))
            self.assertEqual(repr(thing), repr(before))


class PutIn(unittest.TestCase):
    ROWS = [
        (unknown(0), ((0, 1),), 1),
        (unknown(1), ((0, 1),), unknown(1)),
        (7, ((0, 1),), 7), ("a", ((0, 1),), "a"), ((), ((0, 1),), ()),
        ((unknown(0), unknown(1)), ((0, "a"), (1, ())), ("a", ())),
        (listed(unknown(2), 1, end=unknown(3)), ((2, unknown(1)), (3, listed(5))), listed(unknown(1), 1, 5)),
        (unknown(0), ((0, (unknown(1), unknown(2))),), (unknown(1), unknown(2))),
        ((unknown(3), unknown(3)), ((3, listed(unknown(0))),), (listed(unknown(0)), listed(unknown(0)))),
        (heads_within(30, unknown(9)), ((9, heads_within(30, "x")),), heads_within(59, "x")),
    ]

    def test_in_each_place(self):
        for term, filling, told in self.ROWS:
            with self.subTest(term):
                self.assertEqual(put_in(term, filling), told)

    def test_by_nothing(self):
        for term in TERMS:
            self.assertEqual(put_in(term, ()), term)

    def test_all_rows_at_once_and_twice_the_same(self):
        maker = Maker(1, unknowns=10)
        for filling in FILLINGS:
            for _ in range(20):
                term = maker.term(5)
                told = put_in(term, filling)
                self.assertEqual(told, replace(term, dict(filling)))
                self.assertEqual(put_in(told, filling), told)

    def test_great_ones(self):
        filling = tuple((n, grown(300, 30, lambda at: unknown(100 + at))) for n in range(20))
        term = grown(300, 30, lambda at: unknown(at % 30))
        self.assertEqual(put_in(term, filling), replace(term, dict(filling)))


# Two terms, and the filling that makes them alike.
MADE_ALIKE = [
    (1, 1, ()), ("a", "a", ()), ((), (), ()), (unknown(3), unknown(3), ()), (listed(1, 2), listed(1, 2), ()),
    (unknown(0), 1, ((0, 1),)), (-1, unknown(0), ((0, -1),)),
    (unknown(0), unknown(1), ((1, unknown(0)),)), (unknown(1), unknown(0), ((1, unknown(0)),)),
    (unknown(LONG), unknown(7), ((LONG, unknown(7)),)),
    (unknown(0), (unknown(1), unknown(2)), ((0, (unknown(1), unknown(2))),)),
    ((unknown(0), unknown(1)), (1, "a"), ((0, 1), (1, "a"))),
    ((unknown(0), unknown(1)), (unknown(1), unknown(0)), ((1, unknown(0)),)),
    (listed(unknown(2), unknown(1), unknown(0)), listed(unknown(1), unknown(0), unknown(2)),
     ((1, unknown(0)), (2, unknown(0)))),
    (listed(unknown(0), unknown(1)), listed(unknown(1), listed(unknown(2))),
     ((0, listed(unknown(2))), (1, listed(unknown(2))))),
    (listed(unknown(5), unknown(4), unknown(5)), listed((unknown(4), 1), (unknown(3), 2), unknown(0)),
     ((0, ((unknown(3), 2), 1)), (4, (unknown(3), 2)), (5, ((unknown(3), 2), 1)))),
    (listed(unknown(3), unknown(3)), listed((unknown(2), "a"), (unknown(1), unknown(0))),
     ((0, "a"), (2, unknown(1)), (3, (unknown(1), "a")))),
]

# Two that nothing makes alike.
NOTHING = [
    (1, 2), (1, -1), ("a", "b"), (1, "a"), (0, ()), ("a", ()), (1, (1, 1)), ((), ((), ())), ("a", ("a", ())),
    ((1, 2), (1, 3)), ((1, 2), (2, 2)), (listed(1, 2), listed(1, 2, 3)), ((unknown(0), unknown(0)), (1, 2)),
    (unknown(0), (unknown(0), 1)), (unknown(0), listed(1, 2, unknown(0))), (unknown(3), heads_within(30, unknown(3))),
    ((unknown(0), unknown(1)), ((unknown(1), 1), (unknown(0), 1))),
    ((unknown(0), unknown(0)), (unknown(1), (unknown(1), ()))),
    (listed(unknown(0), unknown(1), unknown(2)), listed((1, unknown(1)), (2, unknown(2)), (3, unknown(0)))),
    (listed(unknown(0), unknown(1), unknown(1)), listed(unknown(1), 1, "a")),
    (listed((unknown(0), 1), (unknown(0), 2)), listed(unknown(1), unknown(1))),
]


class Alike(unittest.TestCase):
    def test_the_one_filling(self):
        for one, other, told in MADE_ALIKE:
            with self.subTest(one=one, other=other):
                self.assertEqual(alike(one, other), told)
                self.assertEqual(alike(other, one), told)
                self.assertEqual(alike(one, other, ()), told)
                self.assertEqual(alike(one, other, filling=()), told)
                self.assertIs(is_filling(told), True)

    def test_none_where_nothing_does(self):
        for one, other in NOTHING:
            with self.subTest(one=one, other=other):
                self.assertIsNone(alike(one, other))
                self.assertIsNone(alike(other, one))
                self.assertIsNone(alike((one, unknown(9)), (other, unknown(8))))
                self.assertIsNone(alike((unknown(9), one), (unknown(8), other)))

    def test_long_rings(self):
        for many in (1, 2, 5, 20, 28):
            one = listed(*[unknown(n) for n in range(many)])
            ring = listed(*[(n, unknown((n + 1) % many)) for n in range(many)])
            row = listed(*[(n, unknown(n + 1)) for n in range(many)])
            self.assertIsNone(alike(one, ring))
            self.assertIsNone(alike(ring, one))
            self.assertIsNotNone(alike(one, row))

    def test_behind_a_filling(self):
        rows = [
            (unknown(0), 1, ((0, 1),), ((0, 1),)),
            (unknown(0), 2, ((0, 1),), None),
            (unknown(2), 1, ((2, unknown(0)),), ((0, 1), (2, 1))),
            (unknown(1), unknown(2), ((0, (unknown(1), unknown(2))),), ((0, (unknown(1), unknown(1))), (2, unknown(1)))),
            (unknown(5), unknown(0), ((5, unknown(3)), (6, unknown(3))), ((3, unknown(0)), (5, unknown(0)), (6, unknown(0)))),
            (unknown(1), listed(unknown(0)), ((0, listed(unknown(1))),), None),
            (1, 1, ((4, "a"),), ((4, "a"),)),
            (unknown(7), (), ((3, unknown(1)),), ((3, unknown(1)), (7, ()))),
        ]
        for one, other, filling, told in rows:
            with self.subTest(one=one, other=other, filling=filling):
                self.assertEqual(alike(one, other, filling), told)
                self.assertEqual(alike(other, one, filling=filling), told)

    def test_ground_terms_make_the_same_so(self):
        pool = [0, "a", (), (0, 0), ("a", 0), (0, ("a", 0))]
        for seed in range(60):
            maker = Maker(seed, unknowns=3, atoms=(0, "a"))
            filling = solved(maker.pairs(1, 2)) or ()
            one, other = maker.term(3), maker.term(3)
            told = alike(one, other, filling)
            handed = [(one, other), *equations(filling)]
            for table in all_tables(range(3), pool):
                right = told is not None and holds(equations(told), table)
                self.assertIs(holds(handed, table), right, (one, other, filling, table))

    def test_as_by_a_second_way(self):
        seen = {"none": 0, "empty": 0, "told": 0}
        for seed in range(700):
            maker = Maker(seed, unknowns=2 + seed % 6)
            deep = 2 + seed % 4
            filling = solved(maker.pairs(1, 2)) or ()
            one, other = maker.term(deep), maker.term(deep)
            told = alike(one, other, filling)
            self.assertEqual(told, solved([*equations(filling), (one, other)]))
            self.assertEqual(told, alike(other, one, filling))
            if told is not None:
                self.assertIs(is_filling(told), True)
                self.assertEqual(put_in(one, told), put_in(other, told))
                self.assertEqual(alike(one, other, told), told)
            seen["none" if told is None else "told" if told else "empty"] += 1
        self.assertTrue(min(seen.values()) > 5, seen)

    def test_behind_ten_to_twenty_rows(self):
        found = 0
        for seed in range(150):
            maker = Maker(seed, unknowns=40)
            filling = solved([(unknown(40 + n), maker.term(3)) for n in range(10 + seed % 11)])
            self.assertTrue(10 <= len(filling) <= 20)
            maker.unknowns = 60
            one, other = maker.term(4), maker.term(4)
            told = alike(one, other, filling)
            self.assertEqual(told, solved([*equations(filling), (one, other)]))
            found += told is not None
        self.assertTrue(30 < found < 150)

    def test_in_whatever_order(self):
        for seed in range(120):
            maker = Maker(seed, unknowns=6)
            pairs = maker.pairs(3, 3)
            told = {repr(self.one_by_one(order)) for order in itertools.permutations(pairs)}
            self.assertEqual(told, {repr(solved(pairs))})

    def one_by_one(self, pairs):
        filling = ()
        for one, other in pairs:
            filling = alike(one, other, filling)
            if filling is None:
                return None
        return filling

    def test_the_same_again_and_nothing_is_changed(self):
        for one, other, told in MADE_ALIKE:
            before = copy.deepcopy((one, other))
            self.assertEqual(alike(one, other), alike(one, other))
            self.assertEqual((one, other), before)


class Bounds(unittest.TestCase):
    def test_300_parts_30_within_one_another(self):
        one = grown(300, 30, unknown)
        other = grown(300, 30, lambda at: unknown(1000 + at))
        told = alike(one, other)
        self.assertEqual(told, tuple((1000 + n, unknown(n)) for n in range(150)))
        self.assertEqual(put_in(one, told), put_in(other, told))

    def test_numbers_of_forty_figures(self):
        self.assertEqual(alike(unknown(LONG), LONG), ((LONG, LONG),))
        self.assertIsNone(alike(LONG, LONG - 1))

    def test_what_was_told_handed_in_again(self):
        one = listed(*[unknown(n) for n in range(5)])
        other = listed(*[(unknown(n + 1), unknown(n + 1)) for n in range(5)])
        told = alike(one, other)
        self.assertIs(is_filling(told), True)
        term = put_in(unknown(0), told)
        pair = (term, put_in(term, told))
        self.assertEqual(alike(pair, (unknown(8), unknown(9)), told), tuple([*told, (8, term), (9, term)]))
        self.assertEqual(alike((term, pair), (unknown(9), unknown(8))), ((8, pair), (9, term)))

    def test_great_on_the_way_and_nothing_at_the_end(self):
        # Filled, the lists' ends would have some 2 ** 20 parts, but none makes them alike.
        many = 20
        one = listed(*[unknown(n) for n in range(1, many)], *[unknown(100 + n) for n in range(1, many)][:8])
        other = listed(*[(unknown(n - 1), unknown(n - 1)) for n in range(1, many)],
                       *[(unknown(99 + n), unknown(99 + n)) for n in range(1, many)][:8])
        ends = listed(unknown(8), unknown(0), unknown(100)), listed(unknown(108), 1, 2)
        self.assertIsNone(alike((one, ends[0]), (other, ends[1])))


if __name__ == "__main__":
    unittest.main()
