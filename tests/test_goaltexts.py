import copy
import itertools
import re
import unittest

from programs import A, APPEND, D, EVEN, FREE, GOALS, MEMBER, NEVER, ODD, PROGRAM, TRUE, TWICE, X, Y, Z, GoalMaker
from samples import LONG, heads_within, listed
from spoiling import ANYTHING
from test_goals import goal_right, is_name, program_right, relation_right

from fairsearch.errors import NoText
from fairsearch.goaltexts import read_goal, read_program, read_relation, show_goal, show_program, show_relation

WRITTEN = [
    (("same", X, 1), "same ?x 1"),
    (("same", (), (1, Y)), "same () (1 . ?y)"),
    (("unlike", listed(1, X), "a"), "unlike (1 ?x) a"),
    (("number", -5), "number -5"),
    (("word", X), "word ?x"),
    (("absent", 10, X), "absent 10 ?x"),
    (("absent", "a", listed(X, end=Y)), "absent a (?x . ?y)"),
    (("absent", -LONG, ("?", "abcdefgh")), f"absent -{LONG} ?abcdefgh"),
    (("both", ()), "both 0"),
    (("either", ()), "either 0"),
    (("both", (("both", ()), ("either", ()))), "both 2 both 0 either 0"),
    (("either", (("same", 1, 2),)), "either 1 same 1 2"),
    (("fresh", ("x",), ("both", ())), "fresh 1 x both 0"),
    (("fresh", ("x", "y"), ("same", X, Y)), "fresh 2 x y same ?x ?y"),
    (("call", "list", ()), "call list 0"),
    (("call", "list", (1, (X, ()), "a")), "call list 3 1 (?x) a"),
    (("call", "call", ("call",)), "call call 1 call"),
    (("both", (("same", X, (1, Y)), ("fresh", ("z",), ("call", "list", (Z, Y))))),
     "both 2 same ?x (1 . ?y) fresh 1 z call list 2 ?z ?y"),
    (("either", (("both", (("number", X), ("word", Y))), ("fresh", ("both",), ("same", ("?", "both"), "same")))),
     "either 2 both 2 number ?x word ?y fresh 1 both same ?both same"),
    (("both", tuple(("number", n) for n in range(12))), "both 12 " + " ".join(f"number {n}" for n in range(12))),
]

RELATIONS = [
    (("nil", ("x",), ("same", X, ())), "nil 1 x = same ?x ()"),
    (("true", (), ("both", ())), "true 0 = both 0"),
    (("pair", ("x", "y", "z"), ("same", X, (Y, Z))), "pair 3 x y z = same ?x (?y . ?z)"),
    (("loose", (), ("call", "nobody", (A, D))), "loose 0 = call nobody 2 ?a ?d"),
]


def tokens(text):
    """What stands between blanks outside brackets, or None."""
    found, word, deep = [], "", 0
    for sign in text:
        deep += {"(": 1, ")": -1}.get(sign, 0)
        if deep < 0:
            return None
        if sign == " " and deep == 0:
            found.append(word)
            word = ""
        else:
            word += sign
    return found + [word] if deep == 0 else None


def term_of(text):
    """The open term that is so written, or None: read by signs, then written again."""
    made = re.sub(r"\?([a-z]{1,8})", r"('?', '\1')", text)
    made = re.sub(r"(?<![?'a-z])([a-z]+)(?!')", r"'\1'", made)
    if re.search(r"[^-0-9a-z?'(), .]", text) or "'" in text or "," in text:
        return None
    try:
        term = built(re.findall(r"\('\?', '[a-z]+'\)|\(|\)|\.|'[a-z]+'|-?[0-9]+", made))
    except (ValueError, SyntaxError, IndexError):
        return None
    return [term] if goal_right(("number", term), None, None) and text_of_term(term) == text else None


def built(words):
    stack = [[]]
    for word in words:
        if word == "(":
            stack.append([])
        elif word == ")":
            heads = stack.pop()
            end = ()
            if len(heads) > 2 and heads[-2] == ".":
                end, heads = heads[-1], heads[:-2]
            stack[-1].append(listed(*heads, end=end))
        else:
            stack[-1].append("." if word == "." else eval(word))
    if len(stack) != 1 or len(stack[0]) != 1:
        raise ValueError
    return stack[0][0]


def text_of_term(term):
    if type(term) is tuple and term and term[0] == "?":
        return "?" + term[1]
    if not isinstance(term, tuple):
        return str(term)
    words = []
    while type(term) is tuple and len(term) == 2 and term[0] != "?":
        words.append(text_of_term(term[0]))
        term = term[1]
    end = [] if term == () else [".", text_of_term(term)]
    return "(" + " ".join(words + end) + ")"


def many_of(word):
    return int(word) if re.fullmatch("0|[1-9][0-9]*", word) else None


def take_goal(words):
    """The goal that words begin with, and the words behind it; raises where there is none."""
    word, words = words[0], words[1:]
    if word in ("same", "unlike", "number", "word"):
        many = 2 if word in ("same", "unlike") else 1
        return (word, *take_terms(words, many)), words[many:]
    if word == "absent":
        atom, term = take_terms(words, 2)
        return (word, atom, term), words[2:]
    if word in ("both", "either"):
        goals, left = [], words[1:]
        if many_of(words[0]) > len(words):
            raise ValueError
        for _ in range(many_of(words[0])):
            goal, left = take_goal(left)
            goals.append(goal)
        return (word, tuple(goals)), left
    if word == "fresh":
        many = many_of(words[0])
        goal, left = take_goal(words[many + 1:])
        return (word, tuple(words[1:many + 1]), goal), left
    if word == "call":
        many = many_of(words[1])
        return (word, words[0], take_terms(words[2:], many)), words[many + 2:]
    raise ValueError


def take_terms(words, many):
    if len(words) < many:
        raise ValueError
    return tuple(term_of(word)[0] for word in words[:many])


def goal_by_rules(text):
    """The goal that is so written, in a list, or None."""
    try:
        goal, left = take_goal(tokens(text))
    except (ValueError, TypeError, IndexError):
        return None
    return [goal] if left == [] and goal_right(goal, None, None) else None


def relation_by_rules(text):
    head, sign, body = text.partition(" = ")
    words, goal = head.split(" "), goal_by_rules(body)
    if goal is None or len(words) < 2 or many_of(words[1]) != len(words) - 2:
        return None
    relation = (words[0], tuple(words[2:]), goal[0])
    return [relation] if relation_right(relation) else None


def program_by_rules(text):
    rows = [relation_by_rules(line) for line in text.split("\n")] if text else []
    if None in rows:
        return None
    program = tuple(row[0] for row in rows)
    return [program] if program_right(program) else None


def changed(text, signs="() .\n-?01ax="):
    """The text with a sign out, put in, another one, or two exchanged, at each place."""
    for at in range(len(text) + 1):
        yield text[:at] + text[at + 1:]
        yield text[:at] + text[at + 1:at + 2] + text[at:at + 1] + text[at + 2:]
        for sign in signs:
            yield text[:at] + sign + text[at:]
            yield text[:at] + sign + text[at + 1:]


class Base(unittest.TestCase):
    def refused(self, read, thing):
        with self.assertRaises(NoText) as caught:
            read(thing)
        self.assertIs(caught.exception.text, thing)

    def check(self, read, by_rules, text):
        """Whether the text is read, just as it is by the rules."""
        right = by_rules(text)
        if right is None:
            self.refused(read, text)
        else:
            self.assertEqual(read(text), right[0])
        return right is not None


class Goals(Base):
    def test_sign_by_sign(self):
        for goal, text in WRITTEN:
            with self.subTest(text):
                self.assertEqual(show_goal(goal), text)
                self.assertEqual(read_goal(text), goal)
                self.assertEqual(goal_by_rules(text), [goal])

    def test_read_to_the_very_same(self):
        for goal in GOALS + [relation[2] for relation in PROGRAM]:
            text = show_goal(goal)
            self.assertEqual(repr(read_goal(text)), repr(goal))
            self.assertEqual(goal_by_rules(text), [goal])
        for seed in range(300):
            goal = GoalMaker(seed, PROGRAM).goal(("x", "y", "longname"), 5)
            self.assertEqual(read_goal(show_goal(goal)), goal)

    def test_whatever_calls_and_unknowns(self):
        for text in ("call nobody 2 ?q ?r", "same ?any ?thing", "fresh 1 x fresh 1 x same ?y ?x", "call true 3 1 2 3"):
            self.assertEqual(show_goal(read_goal(text)), text)

    NO_TEXTS = [
        "", " ", "\n", "both", "both 0 ", " both 0", "both  0", "both 0\n", "both\n0", "both 00", "both 01 both 0", "both -0",
        "both +1 both 0", "both 1", "both 1 ", "both 2 both 0", "both 0 both 0", "both 1 both 0 both 0", "both x",
        "both 1both 0", "both () ", "Both 0", "BOTH 0", "all 0", "either", "either 1", "either 2 same 1 1",
        "same", "same ?x", "same ?x 1 2", "same  ?x 1", "same ?x  1", "same ?x\n1", "same ?X 1", "same ?0 1", "same ?12 1",
        "same ? 1", "same ?? 1", "same ?xx? 1", "same ?abcdefghi 1", "same ?x 01", "same ?x -0", "same ?x +1", "same ?x A",
        "same ?x abcdefghi", "same ?x (1 . ())", "same ?x (1 . (2))", "same ?x ( 1)", "same ?x (1 )", "same ?x (1", "same ?x 1)",
        "same(1) 2", "same (1)2", "same (1)(2)", "same ?x1", "same ?x ?y ?z", "same ?x (?0)", "same ?x (1 . ?3)", "same x? 1",
        "unlike 1", "unlike 1 2 3", "number", "number 1 2", "number ?x ", "word", "word a b", "word A",
        "absent", "absent 1", "absent ?x 1", "absent () 1", "absent (1) 1", "absent 1 2 3", "absent A 1", "absent 01 ?x",
        "absent -0 ?x", "absent abcdefghi 1", "absent ?x ?x",
        "fresh", "fresh 0 both 0", "fresh 1 both 0", "fresh 1 x", "fresh 1 x y both 0", "fresh 2 x both 0", "fresh 2 x x both 0",
        "fresh 3 x y x both 0", "fresh 1 X both 0", "fresh 1 ?x both 0", "fresh 1 1 both 0", "fresh 01 x both 0", "fresh x both 0",
        "fresh 1  x both 0", "fresh 1 x  both 0", "fresh 1 abcdefghi both 0", "fresh 1 x both", "fresh 1 x both 0 both 0",
        "call", "call list", "call list 1", "call list 0 ", "call list 0 ?x", "call list 2 ?x", "call list 1 ?x ?y", "call 0",
        "call List 0", "call ?x 0", "call 1 0", "call list 00", "call list 01 ?x", "call list -1", "call list x", "call  list 0",
        "call abcdefghi 0", "call list 1 ?0", "call () 0",
        "nil 1 x = same ?x ()", "= both 0", "both 0 = both 0", "(both 0)", "both 1 (both 0)", "\tboth 0", "both\t0",
        "both 1 " * 500, "both 1 " * 570 + "both", "either 1 " * 400 + "same 1", "fresh 1 x " * 390, "fresh 1 x " * 390 + "z",
        "both 99999999999999999999999999999999999999999 both 0", "call a 99999999999999999999999999 1 2", "9" * 4000,
        "fresh 99999999999999999999999999 x y both 0", "same " + "(" * 300 + " 1", "same " + "(" * 300 + ")" * 300, "(" * 4000,
        "same " + "(" * 300 + ")" * 299 + " 1", "both 2 " * 300 + "both 0", "number " * 500, "~" * 4000,
    ]

    def test_texts_of_no_goal(self):
        for text in self.NO_TEXTS:
            with self.subTest(text):
                self.refused(read_goal, text)

    def test_a_sign_out_put_in_or_exchanged(self):
        told = {True: 0, False: 0}
        for goal, text in WRITTEN:
            if len(text) < 60:
                for other in changed(text):
                    told[self.check(read_goal, goal_by_rules, other)] += 1
        self.assertTrue(min(told.values()) > 500, told)

    def test_words_out_put_in_or_exchanged(self):
        told = {True: 0, False: 0}
        more = ["same", "both", "fresh", "call", "0", "1", "2", "x", "?x", "()", "", "(1", "="]
        for goal, text in WRITTEN:
            words = text.split(" ")
            for at in range(len(words)):
                for put in ([], [words[at]] * 2, *[[word] for word in more], *[[word, words[at]] for word in more]):
                    other = " ".join([*words[:at], *put, *words[at + 1:]])
                    told[self.check(read_goal, goal_by_rules, other)] += 1
        self.assertTrue(min(told.values()) > 100, told)

    def test_every_row_of_few_words(self):
        words = ["both", "fresh", "call", "number", "0", "1", "x", "?x"]
        told = {True: 0, False: 0}
        for many in range(1, 6):
            for row in itertools.product(words, repeat=many):
                told[self.check(read_goal, goal_by_rules, " ".join(row))] += 1
        self.assertTrue(told[True] > 50, told)

    def test_of_anything(self):
        for thing in [*ANYTHING, *GOALS, *PROGRAM, PROGRAM, ["both 0"], ("both 0",), {"both 0": 1}]:
            before = copy.deepcopy(thing)
            if not isinstance(thing, str):
                self.refused(read_goal, thing)
                self.refused(read_relation, thing)
                self.refused(read_program, thing)
            self.assertEqual(repr(thing), repr(before))

    def test_bounds(self):
        terms = (heads_within(30, X), listed(*[Y] * 29), LONG, -LONG)
        deep = ("call", "append", terms)
        for word in ("both", "either", "both", "either", "both", "either", "both"):
            deep = (word, (deep, ("same", 1, 1)))
        self.assertEqual(read_goal(show_goal(deep)), deep)
        for _ in range(20):
            deep = ("fresh", ("x", "longname"), ("both", (deep,)))
        self.assertEqual(read_goal(show_goal(deep)), deep)


class Relations(Base):
    def test_sign_by_sign(self):
        for relation, text in RELATIONS:
            with self.subTest(text):
                self.assertEqual(show_relation(relation), text)
                self.assertEqual(read_relation(text), relation)
                self.assertEqual(relation_by_rules(text), [relation])

    def test_read_to_the_very_same(self):
        for relation in PROGRAM:
            text = show_relation(relation)
            self.assertEqual(text, " ".join([relation[0], str(len(relation[1])), *relation[1], "=", show_goal(relation[2])]))
            self.assertEqual(repr(read_relation(text)), repr(relation))

    NO_TEXTS = [
        "", "nil", "nil 1 x", "nil 1 x =", "nil 1 x = ", "nil 1 x same ?x ()", "nil 1 x=same ?x ()", "nil 1 x  = same ?x ()",
        "nil 1 x = same ?x () ", " nil 1 x = same ?x ()", "nil 1 x = same ?x ()\n", "nil 0 x = same ?x ()", "nil 2 x = same ?x ()",
        "nil 1 = same ?x ()", "nil x = same ?x ()", "nil = both 0", "nil 01 x = both 0", "nil 00 = both 0", "nil 2 x x = both 0",
        "nil 3 x y x = both 0", "nil 1 X = both 0", "nil 1 ?x = both 0", "nil 1 1 = both 0", "Nil 0 = both 0", "1 0 = both 0",
        "?x 0 = both 0", "abcdefghi 0 = both 0", "nil 1 abcdefghi = both 0", "nil 0 == both 0", "nil 0 = = both 0",
        "nil 0 = both 0 = both 0", "both 0", "nil 0 = both", "nil 0 = both 1", "nil 0 = same ?0 1", "= 0 = both 0", "nil 0 - both 0",
        "nil 0 = both 0\nnil 0 = both 0", "nil 0 = both 0 / nil 0 = both 0", "nil 0\n= both 0", "nil 0 =\nboth 0",
        "nil 0 = " + "both 1 " * 500, "nil 99999999999999999999 x = both 0", "nil 0 = fresh 0 both 0",
    ]

    def test_texts_of_no_relation(self):
        for text in self.NO_TEXTS:
            with self.subTest(text):
                self.refused(read_relation, text)

    def test_a_sign_out_put_in_or_exchanged(self):
        told = {True: 0, False: 0}
        for relation, text in RELATIONS:
            for other in changed(text):
                told[self.check(read_relation, relation_by_rules, other)] += 1
        self.assertTrue(min(told.values()) > 100, told)


class Programs(Base):
    def test_each_in_a_line(self):
        self.assertEqual(show_program(()), "")
        self.assertEqual(show_program((TRUE,)), "true 0 = both 0")
        self.assertEqual(show_program((NEVER, TRUE)), "never 0 = either 0\ntrue 0 = both 0")
        self.assertEqual(show_program(PROGRAM), "\n".join(show_relation(relation) for relation in PROGRAM))

    def test_read_to_the_very_same(self):
        for program in ((), (TRUE,), (NEVER, TRUE), (EVEN, ODD), (APPEND,), (MEMBER, TWICE), (FREE,), PROGRAM):
            self.assertEqual(repr(read_program(show_program(program))), repr(program))

    NO_TEXTS = [
        "\n", " ", "true 0 = both 0\n", "\ntrue 0 = both 0", "true 0 = both 0 ", "never 0 = either 0\n\ntrue 0 = both 0",
        "never 0 = either 0 \ntrue 0 = both 0", "never 0 = either 0\n true 0 = both 0", "never 0 = either 0 true 0 = both 0",
        "never 0 = either 0 / true 0 = both 0", "never 0 = either 0\r\ntrue 0 = both 0",
        "true 0 = both 0\nnever 0 = either 0", "true 0 = both 0\ntrue 0 = both 0", "true 0 = call nobody 0",
        "true 0 = same ?x 1", "true 1 x = same ?y 1", "a 0 = call b 1 1\nb 0 = both 0", "a 0 = call b 0", "a 1 x = call a 0",
        "a 0 = both 0\nb 0", "a 0 = both 0\nboth 0", "()", "both 0",
    ]

    def test_texts_of_no_right_program(self):
        for text in self.NO_TEXTS:
            with self.subTest(text):
                self.refused(read_program, text)
                self.assertIsNone(program_by_rules(text))

    def test_a_sign_out_put_in_or_exchanged(self):
        told = {True: 0, False: 0}
        for program in ((NEVER, TRUE), (("a", ("x",), ("call", "b", (X, 1))), ("b", ("x", "y"), ("same", X, Y)))):
            for other in changed(show_program(program)):
                told[self.check(read_program, program_by_rules, other)] += 1
        self.assertTrue(min(told.values()) > 20, told)

    def test_lines_out_twice_or_exchanged(self):
        lines = show_program(PROGRAM).split("\n")
        for at in range(len(lines)):
            for other in (lines[:at] + lines[at + 1:], lines[:at + 1] + lines[at:], lines[:at] + [""] + lines[at:],
                          lines[:at] + lines[at + 1:at + 2] + lines[at:at + 1] + lines[at + 2:]):
                self.check(read_program, program_by_rules, "\n".join(other))

    def test_the_same_again(self):
        text = show_program(PROGRAM)
        self.assertEqual(read_program(text), read_program(text))
        self.assertEqual(text, show_program(PROGRAM))
        self.assertTrue(all(is_name(relation[0]) for relation in read_program(text)))


if __name__ == "__main__":
    unittest.main()
