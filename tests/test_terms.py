import copy
import string
import unittest

from samples import (
    LEAVES, LONG, NO_TERMS, NO_WORDS, PAIRS, TERMS, depth, grown, heads_within, listed, parts, places, unknown,
)

from fairsearch.terms import is_ground, is_term, is_word, renamed, unknowns_in


class Words(unittest.TestCase):
    def test_words(self):
        for word in list(string.ascii_lowercase) + ["ab", "word", "abcdefg", "abcdefgh", "zzzzzzzz"]:
            with self.subTest(word):
                self.assertIs(is_word(word), True)

    def test_texts_that_are_no_words(self):
        for text in NO_WORDS:
            with self.subTest(text):
                self.assertIs(is_word(text), False)

    def test_each_sign_at_each_place(self):
        for sign in [chr(code) for code in range(32, 127)] + ["\n"]:
            right = sign in string.ascii_lowercase
            for text in (sign, sign + "bc", "a" + sign + "c", "ab" + sign, "abcdefg" + sign):
                with self.subTest(text):
                    self.assertIs(is_word(text), right)

    def test_of_anything(self):
        for thing in NO_TERMS + PAIRS + [0, 1, -1, LONG, (), unknown(0), ["a"], ("a",), ("a", "b"), {"a": "b"}]:
            with self.subTest(thing):
                self.assertIs(is_word(thing), False)


class Terms(unittest.TestCase):
    def test_terms(self):
        for term in TERMS:
            with self.subTest(term):
                self.assertIs(is_term(term), True)

    def test_what_is_none(self):
        for thing in NO_TERMS:
            with self.subTest(thing):
                self.assertIs(is_term(thing), False)

    def test_terms_within_terms(self):
        for term in TERMS:
            for outer in places(term):
                with self.subTest(outer):
                    self.assertIs(is_term(outer), True)

    def test_what_is_none_within_terms(self):
        for thing in NO_TERMS:
            for outer in places(thing):
                with self.subTest(outer):
                    self.assertIs(is_term(outer), False)

    def test_lists_and_dicts_are_no_pairs(self):
        for term in LEAVES:
            with self.subTest(term):
                self.assertIs(is_term([term, term]), False)
                self.assertIs(is_term({0: term, 1: term}), False)

    def test_great_things_that_are_none(self):
        deep = None
        for _ in range(60):
            deep = (deep, ())
        lists = []
        for _ in range(59):
            lists = [lists]
        for thing in (deep, lists, [0] * 5000, tuple(range(5000)), "(" * 4000, {n: n for n in range(2000)}):
            self.assertIs(is_term(thing), False)
            self.assertIs(is_word(thing), False)


class Unknowns(unittest.TestCase):
    SEEN = [
        (1, ()), ("a", ()), ((), ()), (listed(1, "a", ()), ()),
        (unknown(0), (0,)), (unknown(7), (7,)), (unknown(LONG), (LONG,)),
        ((unknown(2), unknown(1)), (2, 1)),
        ((unknown(1), unknown(2)), (1, 2)),
        ((unknown(3), unknown(3)), (3,)),
        (listed(unknown(5), unknown(1), unknown(5), end=unknown(0)), (5, 1, 0)),
        (((unknown(4), unknown(3)), (unknown(2), unknown(4))), (4, 3, 2)),
        ((((1, unknown(9)), unknown(8)), (unknown(7), (unknown(9), unknown(6)))), (9, 8, 7, 6)),
        ((listed(1, 2), unknown(1)), (1,)),
    ]

    def test_as_they_come_each_once(self):
        for term, numbers in self.SEEN:
            with self.subTest(term):
                self.assertEqual(unknowns_in(term), numbers)
                self.assertIsInstance(unknowns_in(term), tuple)

    def test_ground_where_there_are_none(self):
        for term, numbers in self.SEEN:
            with self.subTest(term):
                self.assertIs(is_ground(term), numbers == ())

    def test_ground_at_any_depth(self):
        for outer in places("a"):
            self.assertIs(is_ground((outer, unknown(0))), False)
        self.assertIs(is_ground(heads_within(30, 1)), True)
        self.assertIs(is_ground(heads_within(30, unknown(1))), False)
        self.assertIs(is_ground(listed(*range(29))), True)
        self.assertIs(is_ground(listed(*range(29), end=unknown(0))), False)


class Renamed(unittest.TestCase):
    ROWS = [
        ((), ()),
        ((1,), (1,)),
        ((unknown(5),), (unknown(0),)),
        ((unknown(5), unknown(2)), (unknown(0), unknown(1))),
        ((unknown(1), unknown(0), unknown(1)), (unknown(0), unknown(1), unknown(0))),
        (((unknown(1), unknown(0)),), ((unknown(0), unknown(1)),)),
        ((listed("a", unknown(8), end=unknown(3)), unknown(3)), (listed("a", unknown(0), end=unknown(1)), unknown(1))),
        ((((unknown(4), 1), unknown(2)), (unknown(2), unknown(LONG))),
         (((unknown(0), 1), unknown(1)), (unknown(1), unknown(2)))),
        ((1, "a", (), listed(1, 2)), (1, "a", (), listed(1, 2))),
        ((unknown(0), unknown(1)), (unknown(0), unknown(1))),
        ((unknown(1), unknown(2), unknown(0)), (unknown(0), unknown(1), unknown(2))),
    ]

    def test_from_the_first_term_on(self):
        for terms, told in self.ROWS:
            with self.subTest(terms):
                self.assertEqual(renamed(terms), told)
                self.assertIsInstance(renamed(terms), tuple)

    def test_again_the_same(self):
        for terms, told in self.ROWS:
            with self.subTest(terms):
                self.assertEqual(renamed(told), told)

    def test_the_numbers_are_0_and_on(self):
        whole = tuple(TERMS)
        told = renamed(whole)
        many = len(unknowns_in(listed(*whole)))
        self.assertEqual(unknowns_in(listed(*told)), tuple(range(many)))
        self.assertEqual(len(told), len(whole))

    def test_twelve_terms(self):
        terms = tuple((unknown(20 - n), unknown(19 - n)) for n in range(12))
        self.assertEqual(renamed(terms), tuple((unknown(n), unknown(n + 1)) for n in range(12)))


class Bounds(unittest.TestCase):
    def check(self, term, many, deep, unknowns):
        self.assertEqual((parts(term), depth(term)), (many, deep))
        self.assertIs(is_term(term), True)
        self.assertEqual(unknowns_in(term), unknowns)
        self.assertIs(is_ground(term), unknowns == ())

    def test_300_parts_30_within_one_another(self):
        term = grown(300, 30, unknown)
        self.check(term, 299, 30, unknowns_in(term))
        self.assertEqual(sorted(unknowns_in(term)), list(range(150)))
        told = renamed((term,))
        self.check(told[0], 299, 30, tuple(range(150)))
        self.assertEqual(renamed(told), told)

    def test_deep_heads_and_long_lists(self):
        self.check(heads_within(30, unknown(3)), 59, 30, (3,))
        self.check(listed(*map(unknown, range(29))), 59, 30, tuple(range(29)))
        self.assertEqual(renamed((heads_within(30, unknown(3)),)), (heads_within(30, unknown(0)),))

    def test_ground_ones_50_within_one_another(self):
        term = grown(300, 50, lambda at: LONG - at)
        self.check(term, 299, 50, ())
        self.assertEqual(renamed((term,)), (term,))
        self.check(heads_within(50, "a"), 99, 50, ())

    def test_what_was_told_60_within_one_another(self):
        term = grown(1300, 60, lambda at: unknown(2000 - at))
        self.check(term, 1299, 60, unknowns_in(term))
        self.assertEqual(unknowns_in(renamed((term, term))[1]), tuple(range(650)))


class Handed(unittest.TestCase):
    def test_nothing_is_changed(self):
        for thing in NO_TERMS + TERMS + [[1, [2, {"a": [3]}]], {"a": [1], "b": {}}, ([1], {"a": 2})]:
            before = copy.deepcopy(thing)
            is_word(thing)
            is_term(thing)
            is_term((1, thing))
            self.assertEqual(repr(thing), repr(before))

    def test_the_same_again(self):
        for term in TERMS:
            self.assertEqual(unknowns_in(term), unknowns_in(term))
            self.assertEqual(renamed((term, term)), renamed((term, term)))


if __name__ == "__main__":
    unittest.main()
