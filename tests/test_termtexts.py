import copy
import itertools
import unittest

from samples import LONG, NO_TERMS, TERMS, grown, heads_within, listed, places, unknown

from fairsearch.errors import NoText
from fairsearch.terms import is_term
from fairsearch.termtexts import read_term, show_filling, show_term

WRITTEN = [
    (0, "0"), (7, "7"), (10, "10"), (-1, "-1"), (-10, "-10"),
    (LONG, "1234567890" * 4), (-LONG, "-" + "1234567890" * 4),
    ("a", "a"), ("abcdefgh", "abcdefgh"),
    ((), "()"),
    (unknown(0), "?0"), (unknown(12), "?12"), (unknown(LONG), "?" + "1234567890" * 4),
    ((1, ()), "(1)"),
    ((1, 2), "(1 . 2)"),
    ((1, "a"), "(1 . a)"),
    ((1, -2), "(1 . -2)"),
    ((unknown(0), unknown(1)), "(?0 . ?1)"),
    (listed(1, 2, 3), "(1 2 3)"),
    (listed(1, 2, end=3), "(1 2 . 3)"),
    (listed(1, listed("a"), end=unknown(0)), "(1 (a) . ?0)"),
    (((), ()), "(())"),
    ((((), ()), ()), "((()))"),
    (((), ((), ())), "(() ())"),
    (((1, 2), 3), "((1 . 2) . 3)"),
    (((1, 2), (3, 4)), "((1 . 2) 3 . 4)"),
    (((1, ()), ()), "((1))"),
    ((1, ((2, (3, ())), ())), "(1 (2 3))"),
    (listed((("a", "b"), "c"), end=()), "(((a . b) . c))"),
    ((("a", ("b", "c")), (unknown(3), ())), "((a b . c) ?3)"),
    (heads_within(4, "x"), "(((x)))"),
]

NO_TEXTS = [
    "", " ", "\n", "  ",
    " 1", "1 ", "1 2", "a b", "a\n", "\na", "1\n", "()\n", "\n()", "(1\n2)", "(1 2)\n", "(1\n. 2)",
    "( )", "( 1)", "(1 )", "(1  2)", "(1 2 )", "( 1 2)", " (1)", "(1) ", "(1)(2)", "(1) (2)", "(1(2))", "((1)2)",
    "(1  . 2)", "(1 .  2)", "(1. 2)", "(1 .2)", "(1.2)", "(1 . 2 )", "1 . 2", "1.2", ".", " . ", "(.)",
    "(", ")", "((", "))", ")(", "(()", "())", "(1", "1)", "(1 2", "(1 2))", "((1 2)", "(1 . 2", "(1 .", "(1 . ", "(1 ",
    "(. 1)", "( . 1)", "(1 . )", "(1 . 2 3)", "(1 . 2 . 3)", "(1 . . 2)", "(1 . .)", "(1 .)", "(1 . 2 . ())",
    "(1 . ())", "(1 . (2))", "(1 . (2 . 3))", "(1 . (2 3))", "(1 2 . ())", "(() . ())", "((1 . ()) 2)", "(1 (2 . ()))",
    "00", "01", "007", "-0", "-01", "-00", "+1", "+0", "--1", "- 1", "-", "+", "1-", "1-2", "-a", "1_000", "1e3", "1.0",
    "0x1", "1a", "a1", "?", "??0", "?a", "? 0", "?-1", "?+1", "?00", "?01", "?-0", "?0?", "0?", "?()", "?(0)", "?1a",
    "abcdefghi", "(abcdefghi)", "A", "aB", "(A)", "Word", "a_b", "a-b", "a.b", "a,b", "[1]", "{1}", "(1, 2)", "(1,)",
    "\t", "1\t", "'a'", "\"a\"", "None", "True", "a" * 4000, " " * 4000, "\n" * 4000,
    "(" * 300, ")" * 300, "(" * 4000, "(" * 150 + ")" * 149, "(" * 150 + ")" * 151, "( " * 300, "()" * 150,
    "(" * 2000 + ")" * 1999 + " ", "(" * 1500 + " " + ")" * 1500, "(1 " * 300, "(1 . " * 300 + "2" + ")" * 300,
]


def texts_over(signs, longest):
    for many in range(longest + 1):
        for row in itertools.product(signs, repeat=many):
            yield "".join(row)


class Shown(unittest.TestCase):
    def test_as_it_is_written(self):
        for term, text in WRITTEN:
            with self.subTest(text):
                self.assertEqual(show_term(term), text)

    def test_no_two_alike(self):
        texts = [show_term(outer) for term in TERMS for outer in [term, *places(term)]]
        terms = {repr(outer) for term in TERMS for outer in [term, *places(term)]}
        self.assertEqual(len(set(texts)), len(terms))


class Read(unittest.TestCase):
    def refused(self, thing):
        with self.assertRaises(NoText) as caught:
            read_term(thing)
        self.assertIs(caught.exception.text, thing)

    def test_the_term_again(self):
        for term, text in WRITTEN:
            with self.subTest(text):
                self.assertEqual(read_term(text), term)

    def test_terms_within_terms(self):
        for term in TERMS:
            for outer in [term, *places(term)]:
                with self.subTest(outer):
                    self.assertEqual(read_term(show_term(outer)), outer)

    def test_texts_of_no_term(self):
        for text in NO_TEXTS:
            with self.subTest(text):
                self.refused(text)

    def test_of_anything(self):
        others = [thing for thing in NO_TERMS if not isinstance(thing, str)]
        for thing in others + [0, 1, (), (1, 2), unknown(0), ["1"], ("1",), {"1": "1"}, listed(1, 2)]:
            with self.subTest(thing):
                self.refused(thing)

    def test_what_was_handed_in_stays(self):
        for thing in ([1, ["a"]], {"a": [1]}, ("(1)", ["b"])):
            before = copy.deepcopy(thing)
            self.refused(thing)
            self.assertEqual(thing, before)

    def test_the_same_again(self):
        for term, text in WRITTEN:
            self.assertEqual(read_term(text), read_term(text))
            self.assertEqual(show_term(term), show_term(term))


class ReadAll(unittest.TestCase):
    """Every short text: read are just those that are written for terms that were made another way."""

    def all_read(self, signs, longest):
        found = {}
        for text in texts_over(signs, longest):
            try:
                term = read_term(text)
            except NoText as refusal:
                self.assertEqual(refusal.text, text)
                continue
            self.assertIs(is_term(term), True)
            found[text] = term
        return found

    def test_brackets_blanks_and_points(self):
        longest = 7
        written = {}
        fresh = ["a" * many for many in range(1, longest + 1)] + [()]
        while fresh:
            written.update({show_term(term): term for term in fresh})
            known = list(written.values())
            pairs = {show_term((head, rest)): (head, rest) for head in known for rest in known}
            fresh = [pair for text, pair in pairs.items() if len(text) <= longest and text not in written]
        self.assertEqual(self.all_read("() .a", longest), written)

    def test_numbers(self):
        written = {show_term(number): number for number in range(-999, 10000) if set(str(number)) <= set("-019")}
        written.update({show_term(unknown(n)): unknown(n) for n in range(1000) if set(str(n)) <= set("019")})
        self.assertEqual(self.all_read("-019?+", 4), written)

    def test_a_sign_more_or_less_or_another_one(self):
        signs = "() .\n-+?01aA"
        for term, text in WRITTEN:
            if len(text) > 20:
                continue
            for at in range(len(text) + 1):
                for sign in ["", *signs]:
                    for other in (text[:at] + sign + text[at:], text[:at] + sign + text[at + 1:]):
                        try:
                            told = read_term(other)
                        except NoText:
                            continue
                        self.assertEqual(show_term(told), other)


class Fillings(unittest.TestCase):
    ROWS = [
        ((), ""),
        (((0, 1),), "?0 = 1"),
        (((3, unknown(1)),), "?3 = ?1"),
        (((0, 1), (2, "a")), "?0 = 1, ?2 = a"),
        (((1, ()), (2, listed(1, end=unknown(0))), (10, unknown(0))), "?1 = (), ?2 = (1 . ?0), ?10 = ?0"),
        (((0, -LONG), (LONG, listed("a"))), f"?0 = -{LONG}, ?{LONG} = (a)"),
    ]

    def test_as_it_is_written(self):
        for filling, text in self.ROWS:
            with self.subTest(text):
                self.assertEqual(show_filling(filling), text)

    def test_twenty_rows(self):
        filling = tuple((number, unknown(0)) for number in range(1, 21))
        self.assertEqual(show_filling(filling), ", ".join(f"?{number} = ?0" for number in range(1, 21)))


class Bounds(unittest.TestCase):
    def check(self, term):
        text = show_term(term)
        self.assertEqual(read_term(text), term)
        with self.assertRaises(NoText):
            read_term(text + ")")
        with self.assertRaises(NoText):
            read_term("(" + text)

    def test_300_parts_30_within_one_another(self):
        self.check(grown(300, 30, unknown))
        self.check(heads_within(30, unknown(LONG)))
        self.check(listed(*range(29)))

    def test_ground_ones_50_within_one_another(self):
        self.check(grown(300, 50, lambda at: at - LONG))
        self.check(heads_within(50, "abcdefgh"))

    def test_what_was_told_60_within_one_another(self):
        self.check(grown(1300, 60, unknown))
        self.check(heads_within(60, ()))


if __name__ == "__main__":
    unittest.main()
