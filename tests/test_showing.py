import copy
import unittest

from making import Maker
from oracles import all_tables, equations, has_part, holds, is_number, is_pair, is_unknown, is_word, replace, unknown_set
from samples import LONG, grown, heads_within, listed, unknown

from fairsearch.showing import covered, covers, show_answer
from fairsearch.stores import Store
from fairsearch.terms import is_ground, is_term, renamed

X, Y, Z = unknown(0), unknown(1), unknown(2)


def matched(term, value, table):
    """The table with what the unknowns of the term have to be so that it is the value, or None."""
    if is_unknown(term):
        return table if table.setdefault(term[1], value) == value else None
    if is_pair(term) and is_pair(value):
        return None if matched(term[0], value[0], table) is None else matched(term[1], value[1], table)
    return table if type(term) is type(value) and term == value else None


def by_clauses(shown, values):
    """Whether the answer covers the values, where all its unknowns stand in its terms."""
    terms, rows, kinds, absents = shown
    table = {}
    if any(matched(term, value, table) is None for term, value in zip(terms, values)):
        return False
    if any(holds(equations(row), table) for row in rows):
        return False
    if not all(is_number(table[n]) if kind == "number" else is_word(table[n]) for n, kind in kinds):
        return False
    return not any(has_part(table[n], atom) for n, atom in absents)


def answer_of(store, terms):
    """What is shown of a Store's terms whose unknowns are 0, 1, .. as they come."""
    known = unknown_set(listed(*terms))
    rows = tuple(row for row in store.rows() if unknown_set(terms_of(row)) <= known)
    kinds = tuple(row for row in store.kinds() if row[0] in known)
    return (terms, rows, kinds, tuple(row for row in store.absents() if row[0] in known))


def store_by_chance(maker):
    """A Store without a filling."""
    store = Store()
    for _ in range(7):
        word, *told = maker.saying(2)
        following = store if word == "same" else getattr(store, word)(*told)
        store = store if following is None else following
    return store


def terms_of(row):
    return listed(*[unknown(n) for n, term in row], *[term for n, term in row])


# An answer, values that it covers, values that it doesn't.
ANSWERS = [
    (((), (), (), ()), [()], []),
    (((1,), (), (), ()), [(1,)], [(2,), ("a",), ((),), ((1, 1),)]),
    ((("a", ()), (), (), ()), [("a", ())], [("a", "a"), ((), "a"), ("b", ())]),
    (((X,), (), (), ()), [(1,), ("a",), ((),), (listed(1, 2),)], []),
    (((X, X), (), (), ()), [(1, 1), (listed(1), listed(1))], [(1, 2), ((), 0), ((1, 2), (1, 3))]),
    (((X, Y), (), (), ()), [(1, 1), (1, 2)], []),
    ((((X, Y), X), (), (), ()), [((1, 2), 1), ((1, 1), 1)], [((1, 2), 2), (1, 1), ((), ())]),
    (((listed(X, Y, X, end=Z), Y), (), (), ()), [(listed(1, 2, 1), 2), (listed(1, 2, 1, 5), 2)],
     [(listed(1, 2, 2), 2), (listed(1, 2, 1), 1), (listed(1, 2), 2)]),
    (((X,), (((0, 1),),), (), ()), [(2,), ("a",), ((1, 1),)], [(1,)]),
    (((X,), (((0, 1),), ((0, "a"),)), (), ()), [(2,), ("b",)], [(1,), ("a",)]),
    (((X, Y), (((1, X),),), (), ()), [(1, 2), ((), 0)], [(1, 1), ((1, 2), (1, 2))]),
    (((X, Y), (((0, 1), (1, 2)),), (), ()), [(1, 1), (2, 2), (2, 1)], [(1, 2)]),
    (((X, Y), (((0, 1), (1, 2)), ((0, 2), (1, 1))), (), ()), [(1, 1), (2, 2)], [(1, 2), (2, 1)]),
    (((X, Y), (((0, (Y, Y)),),), (), ()), [((1, 1), 2), (1, 1)], [((1, 1), 1), (((), ()), ())]),
    (((X, Y, Z), (((1, X), (2, X)),), (), ()), [(1, 1, 2), (1, 2, 1), (1, 2, 2)], [(1, 1, 1), ((), (), ())]),
    (((X,), (), ((0, "number"),), ()), [(0,), (-LONG,)], [("a",), ((),), ((1, 2),)]),
    (((X,), (), ((0, "word"),), ()), [("a",)], [(1,), ((),), (("a", ()),)]),
    ((((X, Y),), (), ((0, "number"), (1, "word")), ()), [((1, "a"),)], [((1, 2),), (("a", "a"),), (1,), (("a", 1),)]),
    (((X,), (), (), ((0, 1),)), [(2,), ("a",), (listed(2, 11),)], [(1,), (listed(2, 1),), ((3, (1, 2)),)]),
    (((X,), (), (), ((0, 10), (0, 9), (0, "a"))), [(1,), ((),)], [(9,), ((10, 2),), (listed(1, "a"),)]),
    (((X, Y), (((0, 5),),), ((0, "number"),), ((1, "no"),)), [(4, listed("yes"))],
     [(5, 1), ("a", 1), (4, "no"), (4, listed(1, "no"))]),
]

WRITTEN = [
    (((), (), (), ()), ""),
    (((1,), (), (), ()), "1"),
    (((X, "a", ()), (), (), ()), "?0 a ()"),
    (((listed(1, X), (X, Y)), (), (), ()), "(1 ?0) (?0 . ?1)"),
    (((X,), (((0, 1),),), (), ()), "?0 | not ?0 = 1"),
    (((X, Y), (((0, 1), (1, 2)), ((1, X),)), (), ()), "?0 ?1 | not ?0 = 1, ?1 = 2; not ?1 = ?0"),
    (((X,), (), ((0, "number"),), ()), "?0 | number ?0"),
    (((X, Y), (), ((0, "word"), (1, "number")), ()), "?0 ?1 | word ?0; number ?1"),
    (((X,), (), (), ((0, 10), (0, 9), (0, "a"))), "?0 | absent 10 ?0; absent 9 ?0; absent a ?0"),
    (((X, listed(Y, end=Z)), (((0, (Y, ())),),), ((1, "number"),), ((2, -1),)),
     "?0 (?1 . ?2) | not ?0 = (?1); number ?1; absent -1 ?2"),
    (((-LONG,), (), (), ()), f"-{LONG}"),
]


class Covers(unittest.TestCase):
    def test_what_it_covers(self):
        for shown, right, wrong in ANSWERS:
            for values in right:
                with self.subTest(shown=shown, values=values):
                    self.assertIs(covers(shown, values), True)
                    self.assertIs(by_clauses(shown, values), True)

    def test_what_it_does_not(self):
        for shown, right, wrong in ANSWERS:
            for values in wrong:
                with self.subTest(shown=shown, values=values):
                    self.assertIs(covers(shown, values), False)
                    self.assertIs(by_clauses(shown, values), False)

    def test_as_many(self):
        self.assertIs(covers(((X,), (), (), ()), (1, 2)), False)
        self.assertIs(covers(((X,), (), (), ()), ()), False)
        self.assertIs(covers(((), (), (), ()), (1,)), False)

    def test_by_the_clauses(self):
        pool = [0, 1, 2, "a", "b", (), (0, 1), ("a", ("b", 2)), listed(1, "a")]
        told = {True: 0, False: 0}
        for seed in range(200):
            shown = self.answer(seed)
            for table in all_tables(range(2), pool):
                values = tuple(replace(term, {**table, 2: 0, 3: "a"}) for term in shown[0])
                right = by_clauses(shown, values)
                told[right] += 1
                self.assertIs(covers(shown, values), right, (shown, values))
            for values in ((1, 2), ("a", (0, 1)), ((0, 0), (0, 0))):
                self.assertIs(covers(shown, values), by_clauses(shown, values))
        self.assertTrue(min(told.values()) > 500, told)

    def answer(self, seed):
        """An answer of two terms, by chance."""
        maker = Maker(seed, unknowns=4)
        terms = renamed((maker.term(2), maker.term(2)))
        store = store_by_chance(maker)
        return answer_of(store, terms)

    def test_just_what_some_world_of_the_store_has(self):
        pool = [0, 1, "a", (), (0, 1), ("a", "b")]
        for seed in range(60):
            maker = Maker(seed, unknowns=4)
            terms = (X, (Y, X)) if seed % 2 else (X, Y)
            store = store_by_chance(maker)
            shown = answer_of(store, terms)
            for table in all_tables(range(2), pool):
                values = tuple(replace(term, table) for term in terms)
                world = store.same(listed(*terms), listed(*values))
                self.assertIs(covers(shown, values), world is not None, (str(store), values))

    def test_it_covers_what_is_told(self):
        for shown, right, wrong in ANSWERS:
            self.check_covered(shown)
        for seed in range(200):
            self.check_covered(self.answer(seed))

    def check_covered(self, shown):
        values = covered(shown)
        self.assertIsInstance(values, tuple)
        self.assertEqual(len(values), len(shown[0]))
        self.assertTrue(all(is_term(value) and is_ground(value) for value in values))
        self.assertIs(by_clauses(shown, values), True, (shown, values))
        self.assertIs(covers(shown, values), True)
        self.assertEqual(values, covered(shown))

    def test_bounds(self):
        value = grown(300, 50, lambda at: at % 7)
        self.assertIs(covers(((X, X), (), (), ((0, 7), (0, "a"))), (value, value)), True)
        self.assertIs(covers(((X, X), (), (), ((0, 6), (0, "a"))), (value, value)), False)
        self.assertIs(covers((((X, Y), X), (((1, X),),), (), ()), ((value, heads_within(50, 1)), value)), True)
        self.assertIs(covers((((X, Y), X), (((1, X),),), (), ()), ((value, value), value)), False)
        term = grown(300, 30, unknown)
        self.check_covered(((term,), (((0, 1), (1, 2)),), ((3, "word"),), ((4, 0), (4, 1))))

    def test_nothing_is_changed(self):
        for shown, right, wrong in ANSWERS:
            before = copy.deepcopy((shown, right))
            covered(shown)
            show_answer(shown)
            for values in right:
                self.assertEqual(covers(shown, values), covers(shown, values))
            self.assertEqual((shown, right), before)


class Shown(unittest.TestCase):
    def test_as_it_is_written(self):
        for shown, text in WRITTEN:
            with self.subTest(text):
                self.assertEqual(show_answer(shown), text)

    def test_limits_as_a_store_writes_them(self):
        for seed in range(60):
            maker = Maker(seed, unknowns=3)
            store = store_by_chance(maker)
            text = show_answer(answer_of(store, (X, Y, Z)))
            self.assertEqual(text, "?0 ?1 ?2" + (" | " + str(store) if str(store) else ""))


if __name__ == "__main__":
    unittest.main()
