import copy
import itertools
import unittest

from making import Maker
from oracles import (
    all_tables, equations, has_part, is_number, is_unknown, is_word, replace, so_said, solved, unknown_set,
)
from samples import LONG, grown, heads_within, listed, unknown

from fairsearch.fillings import is_filling
from fairsearch.stores import Store
from fairsearch.terms import is_ground, is_term
from fairsearch.termtexts import show_filling, show_term

X, Y, Z = unknown(0), unknown(1), unknown(2)


def say(store, *sayings):
    """The Store behind all of these, or None."""
    for word, *told in sayings:
        if store is not None:
            store = getattr(store, word)(*told)
    return store


def told(store):
    return None if store is None else (store.filling(), store.kinds(), store.absents(), store.rows())


def unknowns_said(sayings):
    return sorted(set().union(*[unknown_set(term) for word, *terms in sayings for term in terms]))


def kinds_by_clauses(sayings, filling):
    kinds = {}
    for word, term in [saying for saying in sayings if saying[0] in ("number", "word")]:
        term = replace(term, dict(filling))
        if is_unknown(term):
            if kinds.setdefault(term[1], word) != word:
                return None
        elif not (is_number(term) if word == "number" else is_word(term)):
            return None
    return kinds


def absents_by_clauses(sayings, filling, kinds):
    found = set()
    for atom, term in [saying[1:] for saying in sayings if saying[0] == "absent"]:
        term = replace(term, dict(filling))
        if has_part(term, atom):
            return None
        kind = "number" if is_number(atom) else "word"
        found |= {(n, atom) for n in unknown_set(term) if kinds.get(n, kind) == kind}
    return tuple(sorted(found, key=lambda row: (row[0], show_term(row[1]))))


def by_clauses(sayings):
    """What a Store of these tells, by the document's words, from the sayings alone; None where it has no world."""
    filling = solved([saying[1:] for saying in sayings if saying[0] == "same"])
    kinds = None if filling is None else kinds_by_clauses(sayings, filling)
    absents = None if kinds is None else absents_by_clauses(sayings, filling, kinds)
    if absents is None:
        return None
    limits = [(kind, unknown(n)) for n, kind in kinds.items()] + [("absent", atom, unknown(n)) for n, atom in absents]
    rows = []
    for one, other in [saying[1:] for saying in sayings if saying[0] == "unlike"]:
        row = solved([(replace(one, dict(filling)), replace(other, dict(filling)))])
        if row == ():
            return None
        if row is not None and by_clauses([("same", *pair) for pair in equations(row)] + limits) is not None:
            rows.append(row)
    least = {
        show_filling(row): row for row in rows
        if not any(other != row and follows(row, other) for other in rows)
    }
    return filling, tuple(sorted(kinds.items())), absents, tuple(least[text] for text in sorted(least))


def follows(row, other):
    return all(replace(unknown(n), dict(row)) == replace(term, dict(row)) for n, term in other)


class Sayings(unittest.TestCase):
    def test_at_first_nothing(self):
        store = Store()
        self.assertEqual(told(store), ((), (), (), ()))
        self.assertEqual((len(store), str(store)), (0, ""))

    def test_each_saying_tells_a_new_store_and_the_old_one_stays(self):
        first = say(Store(), ("unlike", X, Y), ("number", Z))
        before = told(first)
        for saying in (("same", X, 1), ("unlike", X, 2), ("number", X), ("word", Y), ("absent", 3, X),
                       ("same", 1, 1), ("unlike", 1, 2), ("number", Z), ("number", 7), ("word", "a"), ("absent", 1, 2)):
            with self.subTest(saying):
                second = say(first, saying)
                self.assertIsInstance(second, Store)
                self.assertIsNot(second, first)
                self.assertEqual(told(first), before)
                third = say(second, ("same", Y, "b"))
                self.assertIsInstance(third, Store)
                self.assertEqual(told(first), before)
                self.assertEqual(told(say(first, saying)), told(second))

    def test_one_that_was_refused_goes_on(self):
        store = say(Store(), ("same", X, 1))
        self.assertIsNone(store.same(X, 2))
        self.assertIsNone(store.word(X))
        self.assertEqual(store.filling(), ((0, 1),))
        self.assertEqual(store.same(Y, X).filling(), ((0, 1), (1, 1)))

    def test_several_from_one(self):
        root = say(Store(), ("unlike", X, 1))
        branches = [root.same(X, n) for n in range(4)]
        self.assertIsNone(branches[1])
        self.assertEqual([told(store) for store in branches if store is not None],
                         [(((0, n),), (), (), ()) for n in (0, 2, 3)])
        self.assertEqual(told(root), ((), (), (), (((0, 1),),)))


class NoWorld(unittest.TestCase):
    NONE = [
        [("same", 1, 2)], [("same", X, (X, 1))], [("same", X, (1, Y)), ("same", Y, (2, X))],
        [("same", X, 1), ("same", X, "a")], [("same", X, Y), ("same", Y, Z), ("same", X, 1), ("same", Z, 2)],
        [("unlike", 1, 1)], [("unlike", X, X)], [("unlike", (1, X), (1, X))], [("unlike", X, Y), ("same", X, Y)],
        [("unlike", (X, Y), (1, 2)), ("same", X, 1), ("same", Y, 2)], [("same", X, 1), ("unlike", X, 1)],
        [("unlike", (X, Y), (Y, X)), ("same", X, Y)],
        [("number", "a")], [("number", ())], [("number", (1, 2))], [("number", (X, Y))], [("word", 1)], [("word", ())],
        [("word", ("a", "b"))], [("number", X), ("word", X)], [("word", X), ("number", X)],
        [("number", X), ("same", X, "a")], [("same", X, ()), ("word", X)], [("word", X), ("same", X, (Y, Z))],
        [("number", X), ("word", Y), ("same", X, Y)], [("same", X, Y), ("number", X), ("word", Y)],
        [("absent", 1, 1)], [("absent", "a", (1, ("a", 2)))], [("absent", 1, X), ("same", X, 1)],
        [("absent", 1, (X, Y)), ("same", Y, listed(2, 1))], [("same", X, (Y, Z)), ("absent", "b", X), ("same", Z, "b")],
        [("absent", 1, X), ("same", X, (Y, 2)), ("same", Y, (Z, 1))], [("absent", -1, heads_within(30, -1))],
        [("number", X), ("absent", 5, X), ("same", X, 5)],
    ]

    SOME = [
        [("same", X, Y), ("same", Y, X)], [("unlike", 1, 2)], [("unlike", X, (X, 1))], [("unlike", X, Y), ("same", X, 1)],
        [("number", 0)], [("number", -LONG)], [("word", "a")], [("number", X), ("number", X)],
        [("number", X), ("word", Y), ("unlike", X, Y)], [("absent", 1, 2)], [("absent", 1, ())], [("absent", "a", "b")],
        [("absent", 1, "a")], [("number", X), ("absent", "a", X)], [("absent", 1, X), ("same", X, (Y, 11))],
        [("unlike", (X, Y), (1, 2)), ("same", X, 1)], [("absent", 5, X), ("number", X), ("unlike", X, 6)],
        [("absent", n, X) for n in range(20)] + [("number", X)] + [("unlike", X, n) for n in range(20, 39)],
        [("absent", word, X) for word in "abcdefghijklmnopqrstuvwxyz"] + [("word", X)],
        [("number", unknown(n)) for n in range(10)] + [("unlike", unknown(n), unknown(m)) for n in range(8) for m in range(n)],
    ]

    def test_none_in_any_order(self):
        for sayings in self.NONE:
            for order in itertools.permutations(sayings):
                with self.subTest(order):
                    self.assertIsNone(say(Store(), *order))
                    self.assertIsNone(by_clauses(order))

    def test_a_store_where_there_is_one(self):
        for sayings in self.SOME:
            with self.subTest(sayings):
                self.assertIsInstance(say(Store(), *sayings), Store)
                self.assertIsInstance(say(Store(), *sayings[::-1]), Store)

    def test_none_just_where_no_world_is_left(self):
        pool = [0, 1, "a", "b", (), (0, 0), ("a", 1), ((0, "a"), 1)]
        seen = {True: 0, False: 0}
        for seed in range(500):
            maker = Maker(seed, unknowns=3, atoms=(0, 1, "a", ()))
            sayings = [maker.saying(2 + seed % 2) for _ in range(2 + seed % 5)]
            store = say(Store(), *sayings)
            found = any(all(so_said(saying, table) for saying in sayings) for table in all_tables(range(3), pool))
            if store is None:
                self.assertFalse(found, sayings)
            else:
                table = dict(enumerate(store.world((X, Y, Z))))
                self.assertTrue(all(so_said(saying, table) for saying in sayings), sayings)
            seen[store is None] += 1
        self.assertTrue(min(seen.values()) > 50, seen)


class Told(unittest.TestCase):
    def check(self, sayings, filling=(), kinds=(), absents=(), rows=()):
        for order in itertools.islice(itertools.permutations(sayings), 120):
            with self.subTest(order):
                self.assertEqual(told(say(Store(), *order)), (filling, kinds, absents, rows))
        self.assertEqual(by_clauses(sayings), (filling, kinds, absents, rows))

    def test_filling(self):
        self.check([("same", X, Y), ("same", Z, (Y, X))], ((1, X), (2, (X, X))))
        self.check([("same", unknown(9), Z), ("same", Z, unknown(5)), ("same", unknown(5), 1)], ((2, 1), (5, 1), (9, 1)))
        self.check([("same", (X, 1), (Y, 1)), ("same", 1, 1)], ((1, X),))

    def test_kinds(self):
        self.check([("number", X)], kinds=((0, "number"),))
        self.check([("word", unknown(10)), ("number", unknown(9)), ("word", Z)],
                   kinds=((2, "word"), (9, "number"), (10, "word")))
        self.check([("number", Y), ("same", X, Y)], ((1, X),), ((0, "number"),))
        self.check([("number", X), ("same", X, 5)], ((0, 5),))
        self.check([("number", Z), ("same", X, Y), ("same", Y, Z)], ((1, X), (2, X)), ((0, "number"),))
        self.check([("number", 5), ("word", "a")])
        self.check([("same", X, (Y, Z)), ("word", Z)], ((0, (Y, Z)),), ((2, "word"),))

    def test_absents(self):
        self.check([("absent", 1, X)], absents=((0, 1),))
        self.check([("absent", 9, X), ("absent", 10, X), ("absent", "a", X), ("absent", -1, X)],
                   absents=((0, -1), (0, 10), (0, 9), (0, "a")))
        self.check([("absent", 1, (Y, (X, (5, Y))))], absents=((0, 1), (1, 1)))
        self.check([("absent", 2, unknown(10)), ("absent", 3, unknown(9)), ("absent", 1, unknown(10))],
                   absents=((9, 3), (10, 1), (10, 2)))
        self.check([("absent", 1, X), ("same", X, (Y, Z))], ((0, (Y, Z)),), absents=((1, 1), (2, 1)))
        self.check([("absent", 1, X), ("same", X, "a")], ((0, "a"),))
        self.check([("absent", 1, X), ("word", X)], kinds=((0, "word"),))
        self.check([("absent", "a", X), ("word", X)], kinds=((0, "word"),), absents=((0, "a"),))
        self.check([("absent", "a", X), ("number", X), ("absent", 1, X)], kinds=((0, "number"),), absents=((0, 1),))
        self.check([("absent", 1, (X, Y)), ("word", Y)], kinds=((1, "word"),), absents=((0, 1),))
        self.check([("absent", 1, Y), ("same", X, Y), ("absent", 1, X)], ((1, X),), absents=((0, 1),))
        self.check([("absent", 1, X), ("same", X, (Y, Z)), ("word", Z)], ((0, (Y, Z)),), ((2, "word"),), ((1, 1),))

    def test_rows(self):
        self.check([("unlike", X, 1)], rows=(((0, 1),),))
        self.check([("unlike", 1, 2), ("unlike", X, (X, 1))])
        self.check([("unlike", Y, X), ("unlike", X, Y)], rows=(((1, X),),))
        self.check([("unlike", X, 9), ("unlike", X, 10), ("unlike", X, "a")], rows=(((0, 10),), ((0, 9),), ((0, "a"),)))
        self.check([("unlike", (X, Y), (1, 2))], rows=(((0, 1), (1, 2)),))
        self.check([("unlike", (X, Y), (1, 2)), ("same", X, 1)], ((0, 1),), rows=(((1, 2),),))
        self.check([("unlike", (X, Y), (1, 2)), ("same", X, 2)], ((0, 2),))
        self.check([("unlike", X, listed(Y, Z)), ("same", X, listed(1, 2))], ((0, listed(1, 2)),),
                   rows=(((1, 1), (2, 2)),))
        self.check([("unlike", X, Y), ("same", X, (Z, 1))], ((0, (Z, 1)),), rows=(((1, (Z, 1)),),))

    def test_rows_that_hold_in_no_world(self):
        self.check([("unlike", X, "a"), ("number", X)], kinds=((0, "number"),))
        self.check([("unlike", X, ()), ("word", X)], kinds=((0, "word"),))
        self.check([("unlike", X, (Y, 1)), ("number", X)], kinds=((0, "number"),))
        self.check([("unlike", X, 1), ("number", X)], kinds=((0, "number"),), rows=(((0, 1),),))
        self.check([("unlike", X, Y), ("number", X), ("word", Y)], kinds=((0, "number"), (1, "word")))
        self.check([("unlike", X, Y), ("number", X)], kinds=((0, "number"),), rows=(((1, X),),))
        self.check([("unlike", X, 5), ("absent", 5, X)], absents=((0, 5),))
        self.check([("unlike", X, (Y, 5)), ("absent", 5, X)], absents=((0, 5),))
        self.check([("unlike", X, (Y, 5)), ("absent", 5, Y)], absents=((1, 5),), rows=(((0, (Y, 5)),),))
        self.check([("unlike", (X, Y), (1, "a")), ("number", Y)], kinds=((1, "number"),))
        self.check([("unlike", (X, Y), (Z, Z)), ("number", X), ("word", Y)], kinds=((0, "number"), (1, "word")))
        self.check([("unlike", (X, Y), (Z, Z)), ("number", X), ("word", Z)], kinds=((0, "number"), (2, "word")))

    def test_rows_that_follow_from_one_other(self):
        self.check([("unlike", X, 1), ("unlike", (X, Y), (1, 2))], rows=(((0, 1),),))
        self.check([("unlike", (X, Y), (1, 2)), ("unlike", (Y, Z), (2, 3)), ("unlike", Y, 2)], rows=(((1, 2),),))
        self.check([("unlike", X, Y), ("unlike", (X, Y), (1, 1))], rows=(((1, X),),))
        self.check([("unlike", X, Y), ("unlike", (X, (Y, Z)), (1, (1, 2)))], rows=(((1, X),),))
        self.check([("unlike", (X, Y), (1, 1)), ("unlike", (X, Y), (1, 2))],
                   rows=(((0, 1), (1, 1)), ((0, 1), (1, 2))))
        self.check([("unlike", X, (Y, 1)), ("unlike", (X, Y), ((2, 1), 2))], rows=(((0, (Y, 1)),),))
        self.check([("unlike", X, 1), ("unlike", X, (Y, Z)), ("unlike", (X, Y), ((1, Z), 1))],
                   rows=(((0, (Y, Z)),), ((0, 1),)))
        self.check([("unlike", (X, Y), (1, 2)), ("unlike", (X, Z), (1, 3)), ("same", Y, 2)], ((1, 2),), rows=(((0, 1),),))

    def test_as_by_the_clauses_in_every_order(self):
        seen = {"none": 0, "rows": 0, "kinds": 0, "absents": 0}
        for seed in range(300):
            maker = Maker(seed, unknowns=4 + seed % 5)
            sayings = [maker.saying(2 + seed % 2) for _ in range(3 + seed % 4)]
            right = by_clauses(sayings)
            orders = list(itertools.permutations(sayings))
            for order in orders[::max(1, len(orders) // 12)]:
                self.assertEqual(told(say(Store(), *order)), right, order)
            seen["none"] += right is None
            for at, name in ((1, "kinds"), (2, "absents"), (3, "rows")):
                seen[name] += right is not None and right[at] != ()
        self.assertTrue(min(seen.values()) > 20, seen)

    def test_kinds_are_just_those_that_have_to_be(self):
        for seed in range(120):
            maker = Maker(seed, unknowns=4)
            store = say(Store(), *[maker.saying(2) for _ in range(4)])
            if store is None:
                continue
            filled = [n for n, term in store.filling()]
            for n in [n for n in range(4) if n not in filled]:
                others = [store.same(unknown(n), other) for other in (881, 882, 883, "u", "v", "w", (), ((), 884))]
                may = ["number" if others[:3].count(None) < 3 else None,
                       "word" if others[3:6].count(None) < 3 else None,
                       "else" if others[6:].count(None) < 2 else None]
                told_kind = dict(store.kinds()).get(n)
                self.assertEqual([kind for kind in may if kind], [told_kind] if told_kind else ["number", "word", "else"])

    def test_forty_sayings(self):
        for seed in range(12):
            maker = Maker(seed, unknowns=12, atoms=(0, 1, 2, 3, "a", "b", "c"))
            sayings, store = [], Store()
            while len(sayings) < 40:
                saying = maker.saying(3 if seed % 2 else 2)
                following = say(store, saying)
                self.assertEqual(told(following), by_clauses([*sayings, saying]))
                if following is not None:
                    sayings.append(saying)
                    store = following
            self.assertEqual(told(say(Store(), *sayings[::-1])), told(store))
            maker.rng.shuffle(sayings)
            self.assertEqual(told(say(Store(), *sayings)), told(store))
            self.assertEqual(say(Store(), *sayings), store)

    def test_all_are_tuples_and_fillings(self):
        store = say(Store(), ("same", X, (Y, Z)), ("number", Y), ("absent", 1, Z), ("unlike", Z, unknown(5)))
        for part in told(store):
            self.assertIsInstance(part, tuple)
        self.assertTrue(all(is_filling(filling) for filling in (store.filling(), *store.rows())))


class Signs(unittest.TestCase):
    def test_len_is_how_many_rows(self):
        store = say(Store(), ("unlike", X, 1), ("unlike", X, 2), ("unlike", (X, Y), (1, 5)), ("unlike", 1, 2))
        self.assertEqual(len(store), 2)
        self.assertEqual(len(store.same(X, 1) or []), 0)
        self.assertEqual(len(store.unlike(Y, Z)), 3)

    def test_equal_where_the_same_is_told(self):
        rows = [
            ([], []), ([("same", 1, 1)], []), ([("same", X, Y)], [("same", Y, X)]),
            ([("unlike", X, 1), ("unlike", (X, Y), (1, 2))], [("unlike", 1, X)]),
            ([("number", X), ("absent", "a", X)], [("number", X)]),
            ([("absent", 1, (X, Y))], [("absent", 1, Y), ("absent", 1, X), ("number", 7)]),
        ]
        for one, other in rows:
            with self.subTest(one):
                first, second = say(Store(), *one), say(Store(), *other)
                self.assertTrue(first == second and second == first)
                self.assertFalse(first != second)
                self.assertIn(first, [1, second])
                self.assertEqual(str(first), str(second))

    def test_unlike_where_something_else_is_told(self):
        stores = [say(Store(), *sayings) for sayings in (
            [], [("same", X, 1)], [("same", X, 2)], [("same", X, Y)], [("unlike", X, 1)], [("unlike", X, 2)],
            [("unlike", X, 1), ("unlike", X, 2)], [("unlike", (X, Y), (1, 2))], [("number", X)], [("word", X)],
            [("number", Y)], [("absent", 1, X)], [("absent", 2, X)], [("absent", 1, Y)], [("absent", "a", X)],
            [("number", X), ("absent", 1, X)], [("same", X, 1), ("number", Y)],
        )]
        for one, other in itertools.combinations(stores, 2):
            self.assertFalse(one == other)
            self.assertTrue(one != other)
        for store in stores:
            self.assertNotIn(store, [other for other in stores if other is not store])
            self.assertIn(store, stores)

    def test_things_of_other_kinds(self):
        for store in (Store(), say(Store(), ("same", X, 1))):
            for thing in (None, 0, 1, True, False, "", str(store), (), [], {}, told(store), Store, ((), (), (), ())):
                self.assertFalse(store == thing)
                self.assertFalse(thing == store)
                self.assertTrue(store != thing)
            self.assertNotIn(store, [None, 0, "", (), [], {}])
            self.assertNotIn(None, [store])

    def test_str(self):
        rows = [
            ([], ""), ([("same", X, 1)], "?0 = 1"), ([("same", X, Y), ("same", Z, (X, ()))], "?1 = ?0, ?2 = (?0)"),
            ([("unlike", X, 1)], "not ?0 = 1"), ([("unlike", (X, Y), (1, 2))], "not ?0 = 1, ?1 = 2"),
            ([("unlike", X, 9), ("unlike", X, 10)], "not ?0 = 10; not ?0 = 9"),
            ([("number", X)], "number ?0"), ([("word", Z), ("number", X)], "number ?0; word ?2"),
            ([("absent", "a", Y), ("absent", -5, X)], "absent -5 ?0; absent a ?1"),
            ([("absent", 9, X), ("absent", 10, X)], "absent 10 ?0; absent 9 ?0"),
            ([("absent", "b", (unknown(4), Y)), ("word", Z), ("unlike", Y, (1, unknown(4))), ("same", X, Z)],
             "?2 = ?0; not ?1 = (1 . ?4); word ?0; absent b ?1; absent b ?4"),
        ]
        for sayings, text in rows:
            with self.subTest(text):
                self.assertEqual(str(say(Store(), *sayings)), text)
                self.assertEqual(str(say(Store(), *sayings[::-1])), text)


class World(unittest.TestCase):
    def test_by_the_clauses(self):
        for seed in range(250):
            maker = Maker(seed, unknowns=6)
            sayings, store = [], Store()
            for _ in range(4 + seed % 20):
                saying = maker.saying(2 + seed % 2)
                if say(store, saying) is not None:
                    sayings.append(saying)
                    store = say(store, saying)
            numbers = list(range(9))
            values = store.world(tuple(unknown(n) for n in numbers))
            self.check(store, sayings, dict(zip(numbers, values)), values)
            terms = tuple(maker.term(3) for _ in range(12))
            told_terms = store.world(terms)
            self.assertEqual((len(told_terms), type(told_terms)), (12, tuple))
            self.assertTrue(all(is_term(term) and is_ground(term) for term in told_terms))
            self.assertIsNotNone(say(store, *[("same", term, value) for term, value in zip(terms, told_terms)]))

    def check(self, store, sayings, table, values):
        for value in values:
            self.assertTrue(is_term(value) and is_ground(value))
        for saying in sayings:
            self.assertTrue(so_said(saying, table), (saying, table))
        self.assertEqual(store.world(tuple(map(unknown, table))), values)

    def test_terms_of_unknowns_that_nothing_was_said_of(self):
        store = say(Store(), ("same", X, (Y, 1)))
        one, other, third = store.world((X, unknown(50), listed(unknown(60), Y, 5)))
        self.assertEqual((one[1], third[1][0], third[1][1]), (1, one[0], (5, ())))
        self.assertTrue(is_ground(other) and is_term(other))

    def test_terms_without_unknowns(self):
        self.assertEqual(Store().world(()), ())
        self.assertEqual(Store().world((1, "a", (), listed(1, 2))), (1, "a", (), listed(1, 2)))

    def test_many_words_and_numbers(self):
        words = [unknown(n) for n in range(20)]
        store = say(Store(), *[("word", term) for term in words],
                    *[("unlike", words[n], words[n + 1]) for n in range(19)])
        values = store.world(tuple(words))
        self.assertTrue(all(is_word(value) and is_term(value) for value in values))
        self.assertTrue(all(one != other for one, other in zip(values, values[1:])))
        letters = "abcdefghijklmnopqrstuvwxyz"
        store = say(Store(), ("word", X), *[("absent", letter, X) for letter in letters],
                    *[("unlike", X, "a" + letter) for letter in letters[:13]])
        value, = store.world((X,))
        self.assertTrue(is_word(value) and is_term(value))
        self.assertFalse(value in letters or value in ["a" + letter for letter in letters[:13]])

    def test_what_is_told_may_be_said_again(self):
        store = say(Store(), ("unlike", X, Y), ("absent", 0, X), ("same", Z, listed(X, Y)))
        value, = store.world((Z,))
        following = store.same(Z, value)
        self.assertEqual(following.world((Z, X, Y)), (value, value[0], value[1][0]))


class Bounds(unittest.TestCase):
    def test_great_terms(self):
        store = Store()
        for at in range(10):
            one = grown(300, 30, lambda leaf, at=at: unknown((leaf * 7 + at) % 60))
            other = grown(300, 30, lambda leaf, at=at: unknown((leaf * 11 + at) % 60 + 60))
            store = store.unlike(one, other)
            self.assertEqual(len(store), at + 1)
            store = store.absent(-at, one).absent(f"{'abcdefghij'[at]}", other)
        self.assertEqual(len(store.absents()), 1200)
        store = store.same(grown(300, 30, lambda leaf: unknown(leaf % 60)), grown(300, 30, lambda leaf: unknown(200)))
        self.assertIsInstance(store, Store)
        self.assertEqual(len(store.filling()), 60)
        self.assertEqual(told(store), told(store.same(1, 1)))

    def test_numbers_of_forty_figures(self):
        store = say(Store(), ("same", unknown(LONG), -LONG), ("unlike", unknown(LONG - 1), LONG), ("absent", LONG, X))
        self.assertEqual(str(store), f"?{LONG} = -{LONG}; not ?{LONG - 1} = {LONG}; absent {LONG} ?0")

    def test_nothing_is_changed_and_the_same_again(self):
        sayings = [("same", X, (Y, 1)), ("unlike", Y, (Z, 2)), ("absent", "a", Y), ("number", Z)]
        before = copy.deepcopy(sayings)
        first, second = say(Store(), *sayings), say(Store(), *sayings)
        self.assertEqual(sayings, before)
        self.assertEqual(told(first), told(second))
        for _ in range(2):
            self.assertEqual(first.world((X, Y)), second.world((X, Y)))
            self.assertEqual(str(first), str(second))


if __name__ == "__main__":
    unittest.main()
