import copy
import unittest
from random import Random

from programs import A, APPEND, EVEN, GOALS, MEMBER, NEVER, ODD, PROGRAM, TRUE, X, Y, GoalMaker, name
from samples import LONG, NO_TERMS, NO_WORDS, heads_within, listed, unknown
from spoiling import ANYTHING, spoilt, spoilt_twice

from fairsearch.goals import is_goal, is_program

NAMES = ("x", "y")


def is_name(thing):
    return type(thing) is str and 1 <= len(thing) <= 8 and all(sign in "abcdefghijklmnopqrstuvwxyz" for sign in thing)


def is_atom(thing):
    return type(thing) is int or is_name(thing)


def names_right(thing, least=0):
    return type(thing) is tuple and len(thing) >= least and all(map(is_name, thing)) and len({*thing}) == len(thing)


def term_right(thing, names):
    """Whether it is an open term with unknowns of these names, of any names where these are None."""
    if type(thing) is tuple and len(thing) == 2 and type(thing[0]) is str and thing[0] == "?":
        return is_name(thing[1]) and (names is None or thing[1] in names)
    if type(thing) is tuple and len(thing) == 2:
        return term_right(thing[0], names) and term_right(thing[1], names)
    return (type(thing) is tuple and thing == ()) or is_atom(thing)


def goal_right(thing, names, many):
    """Whether it is a goal by these names and numbers of relations' names; whatever these are where they are None."""
    if type(thing) is not tuple or not thing or type(thing[0]) is not str:
        return False
    word, *parts = thing
    if word in ("same", "unlike"):
        return len(parts) == 2 and all(term_right(part, names) for part in parts)
    if word in ("number", "word"):
        return len(parts) == 1 and term_right(parts[0], names)
    if word == "absent":
        return len(parts) == 2 and is_atom(parts[0]) and term_right(parts[1], names)
    if word in ("both", "either"):
        return len(parts) == 1 and type(parts[0]) is tuple and all(goal_right(part, names, many) for part in parts[0])
    if word == "fresh":
        if len(parts) != 2 or not names_right(parts[0], 1):
            return False
        return goal_right(parts[1], None if names is None else {*names, *parts[0]}, many)
    if word != "call" or len(parts) != 2 or not is_name(parts[0]) or type(parts[1]) is not tuple:
        return False
    if many is not None and many.get(parts[0]) != len(parts[1]):
        return False
    return all(term_right(part, names) for part in parts[1])


def relation_right(thing):
    if type(thing) is not tuple or len(thing) != 3 or not is_name(thing[0]) or not names_right(thing[1]):
        return False
    return goal_right(thing[2], None, None)


def program_right(thing):
    if type(thing) is not tuple or not all(map(relation_right, thing)):
        return False
    if sorted({row[0] for row in thing}) != [row[0] for row in thing]:
        return False
    many = {row[0]: len(row[1]) for row in thing}
    return all(goal_right(row[2], set(row[1]), many) for row in thing)


def by_program(names, thing):
    return goal_right(thing, set(names), {row[0]: len(row[1]) for row in PROGRAM})


NO_GOALS = [
    (), ("same",), ("same", X), ("same", X, Y, X), ("same", X, name("z")), ("same", name("z"), 1), ("same", X, unknown(0)),
    ("same", unknown(0), 1), ("same", (1, unknown(3)), 1), ("same", X, True), ("same", X, None), ("same", X, [1, 2]),
    ("same", X, "A"), ("same", X, "abcdefghi"), ("same", X, ("?", "X")), ("same", X, ("?", "")), ("same", X, ("?",)),
    ("same", X, (1, 2, 3)), ("same", X, (1,)), ("unlike", X), ("unlike", X, Y, Y), ("unlike", X, name("a")),
    ("unlike", heads_within(20, name("b")), 1), ("number",), ("number", X, Y), ("number", name("q")), ("number", [X]),
    ("word",), ("word", X, X), ("word", name("yy")), ("word", None), ("absent", 1), ("absent", 1, X, X), ("absent", X, 1),
    ("absent", (), X), ("absent", True, X), ("absent", "A", X), ("absent", (1, 2), X), ("absent", None, X),
    ("absent", ("?", 0), X), ("absent", 1, name("a")), ("absent", 1, [X]), ("absent",),
    ("both",), ("both", None), ("both", [("same", X, 1)]), ("both", (1,)), ("both", ("same", X, 1)), ("both", (), ()),
    ("both", (("same", X, 1), ("same", X))), ("both", (("same", X, 1), ())), ("both", ("both", ())),
    ("either",), ("either", []), ("either", (("same", X, name("z")),)), ("either", (("both", ()), None)),
    ("either", ("same", X, 1), ("same", X, 2)),
    ("fresh",), ("fresh", (), ("both", ())), ("fresh", ("a",)), ("fresh", ("a",), ("same", A, 1), ("same", A, 1)),
    ("fresh", ("a", "a"), ("both", ())), ("fresh", ("a", "d", "a"), ("both", ())), ("fresh", ("A",), ("both", ())),
    ("fresh", "a", ("both", ())), ("fresh", ["a"], ("both", ())), ("fresh", (1,), ("both", ())),
    ("fresh", (A,), ("both", ())), ("fresh", ("",), ("both", ())), ("fresh", ("abcdefghi",), ("both", ())),
    ("fresh", ("a",), ("same", name("d"), 1)), ("fresh", ("a",), None), ("fresh", ("a",), ()),
    ("fresh", ("a",), (("same", A, 1),)),
    ("both", (("fresh", ("a",), ("same", A, 1)), ("same", A, 1))),
    ("either", (("same", A, 1), ("fresh", ("a",), ("same", A, 1)))),
    ("fresh", ("a",), ("both", (("fresh", ("d",), ("both", ())), ("same", name("d"), 1)))),
    ("call",), ("call", "true"), ("call", "true", (), ()), ("call", "true", []), ("call", "true", None), ("call", "even", X),
    ("call", "even", ()), ("call", "even", (X, Y)), ("call", "true", (X,)), ("call", "append", (X, Y)),
    ("call", "append", (X, Y, X, Y)), ("call", "nobody", ()), ("call", "nobody", (X,)), ("call", "EVEN", (X,)),
    ("call", 1, (X,)), ("call", ("even",), (X,)), ("call", "", (X,)), ("call", "even", [X]), ("call", "even", (name("z"),)),
    ("call", "even", (unknown(0),)), ("call", "even", (True,)), ("call", ["even"], (X,)),
    ("Same", X, 1), ("", X, 1), ("not", X), ("so", X, 1), (None, X), (1, 2), (["same"], X, 1), ("same X 1",),
    ["same", X, 1], ["both", ()], {"both": ()}, "both 0", "same", None, True, 0, (("same", X, 1),), (("both", ()),),
]


class Goals(unittest.TestCase):
    def test_right_ones(self):
        for goal in GOALS:
            with self.subTest(goal):
                self.assertIs(is_goal(PROGRAM, NAMES, goal), True)
                self.assertIs(by_program(NAMES, goal), True)

    def test_what_is_none(self):
        for goal in NO_GOALS:
            with self.subTest(goal):
                self.assertIs(is_goal(PROGRAM, NAMES, goal), False)
                self.assertIs(by_program(NAMES, goal), False)

    def test_what_is_none_within_goals(self):
        for goal in NO_GOALS:
            for outer in (("both", (("both", ()), goal)), ("either", (goal, ("both", ()))), ("fresh", ("q",), goal),
                          ("both", (("either", (("fresh", ("q", "r"), ("both", (goal,))),)),))):
                with self.subTest(outer):
                    self.assertIs(is_goal(PROGRAM, NAMES, outer), by_program(NAMES, outer))

    def test_names_that_are_known(self):
        for goal in GOALS:
            for names in ((), ("x",), ("y",), ("a", "d"), ("x", "y", "z", "longname")):
                with self.subTest(goal=goal, names=names):
                    self.assertIs(is_goal(PROGRAM, names, goal), by_program(names, goal))

    def test_a_name_is_known_only_within_its_fresh_goal(self):
        inner = ("same", name("q"), 1)
        fresh = ("fresh", ("q",), inner)
        self.assertIs(is_goal((), (), fresh), True)
        self.assertIs(is_goal((), (), ("both", (fresh, fresh))), True)
        self.assertIs(is_goal((), (), ("both", (fresh, inner))), False)
        self.assertIs(is_goal((), (), ("both", (inner, fresh))), False)
        self.assertIs(is_goal((), (), ("fresh", ("r",), inner)), False)
        self.assertIs(is_goal((), (), ("fresh", ("r",), fresh)), True)
        self.assertIs(is_goal((), (), ("fresh", ("q",), ("both", (fresh, inner)))), True)

    def test_calls_by_the_program(self):
        self.assertIs(is_goal((), (), ("call", "true", ())), False)
        self.assertIs(is_goal((TRUE,), (), ("call", "true", ())), True)
        self.assertIs(is_goal((NEVER,), (), ("call", "true", ())), False)
        self.assertIs(is_goal((("true", ("x",), ("same", X, X)),), (), ("call", "true", ())), False)
        self.assertIs(is_goal((("true", ("x",), ("same", X, X)),), (), ("call", "true", (1,))), True)

    def test_any_word_is_a_name_and_nothing_else(self):
        for word in ("a", "same", "both", "call", "abcdefgh", "zz"):
            goal = ("fresh", (word,), ("same", ("?", word), word))
            self.assertIs(is_goal((), (), goal), True)
        for thing in NO_WORDS + [1, None, (), True, ("a",), ["a"]]:
            self.assertIs(is_goal((), ("x",), ("fresh", (thing,), ("both", ()))), False)
            self.assertIs(is_goal((), ("x",), ("fresh", ("x", thing), ("both", ()))), False)
            self.assertIs(is_goal((), ("x",), ("same", ("?", thing), 1)), False)

    def test_what_is_no_term_in_a_term(self):
        for thing in NO_TERMS:
            right = term_right(thing, NAMES)
            for goal in (("same", thing, 1), ("unlike", X, (1, thing)), ("number", thing), ("word", listed(1, thing)),
                         ("absent", 1, thing), ("call", "even", (thing,)), ("call", "append", (X, Y, (thing, ())))):
                self.assertIs(is_goal(PROGRAM, NAMES, goal), right, goal)

    def test_spoilt_at_any_place_and_depth(self):
        rng = Random(10)
        told = {True: 0, False: 0}
        for goal in GOALS:
            for thing in [*spoilt(goal), *spoilt_twice(goal, rng, 100)]:
                right = by_program(NAMES, thing)
                told[right] += 1
                self.assertIs(is_goal(PROGRAM, NAMES, thing), right, thing)
        self.assertTrue(min(told.values()) > 300, told)

    def test_by_chance(self):
        for seed in range(200):
            goal = GoalMaker(seed, PROGRAM).goal(NAMES)
            self.assertIs(is_goal(PROGRAM, NAMES, goal), True)
            self.assertIs(is_goal(PROGRAM, (), goal), by_program((), goal))
            self.assertIs(is_goal((), NAMES, goal), goal_right(goal, set(NAMES), {}))

    def test_of_anything(self):
        for thing in ANYTHING + NO_TERMS:
            before = copy.deepcopy(thing)
            self.assertIs(is_goal(PROGRAM, NAMES, thing), by_program(NAMES, thing))
            self.assertIs(is_goal(PROGRAM, NAMES, ("both", (thing,))), by_program(NAMES, ("both", (thing,))))
            self.assertIs(is_program(thing), program_right(thing))
            self.assertEqual(repr(thing), repr(before))


class Programs(unittest.TestCase):
    NONE = [
        (EVEN,), (ODD,), (ODD, EVEN), (TRUE, NEVER), (TRUE, TRUE), (APPEND, APPEND), [TRUE], (list(TRUE),), TRUE, None, "",
        (TRUE, None), (("true", (), ("both", ()), ()),), (("true", ()),), ((("true",), (), ("both", ())),),
        (("True", (), ("both", ())),), (("", (), ("both", ())),), (("abcdefghi", (), ("both", ())),), ((1, (), ("both", ())),),
        (("true", [], ("both", ())),), (("true", "x", ("both", ())),), (("true", ("x", "x"), ("both", ())),),
        (("true", ("X",), ("both", ())),), (("true", (1,), ("both", ())),), (("true", (X,), ("both", ())),),
        (("true", (), ()),), (("true", (), None),), (("true", (), ("same", X, 1)),), (("true", ("y",), ("same", X, 1)),),
        (("true", (), ("call", "other", ())),), (("true", (), ("call", "true", (1,))),),
        (("a", ("x",), ("call", "b", (X,))), ("b", (), ("both", ()))),
        (("a", (), ("both", ())), ("a", ("x",), ("both", ()))), (("b", (), ("both", ())), ("a", (), ("both", ()))),
        (("a", ("x",), ("same", X, 1)), ("b", (), ("same", X, 1))),
        (("a", ("x",), ("fresh", ("y",), ("both", ()))), ("b", ("x",), ("same", Y, 1))),
    ]

    def test_right_ones(self):
        for program in ((), (TRUE,), (NEVER, TRUE), (EVEN, ODD), PROGRAM, (APPEND,), (MEMBER,),
                        (("a", (), ("call", "a", ())),), (("a", ("x",), ("call", "b", (X, X))), ("b", ("y", "x"), ("same", X, Y))),
                        (("a", ("x",), ("fresh", ("x",), ("same", X, 1))),), (("a", ("a",), ("same", A, "a")),)):
            with self.subTest(program):
                self.assertIs(is_program(program), True)
                self.assertIs(program_right(program), True)

    def test_what_is_none(self):
        for thing in self.NONE:
            with self.subTest(thing):
                self.assertIs(is_program(thing), False)
                self.assertIs(program_right(thing), False)

    def test_rising_as_texts_rise(self):
        names = ["a", "aa", "ab", "b", "ba", "z"]
        program = tuple((word, (), ("both", ())) for word in names)
        self.assertIs(is_program(program), True)
        for at in range(len(names) - 1):
            turned = (*program[:at], program[at + 1], program[at], *program[at + 2:])
            self.assertIs(is_program(turned), False)

    def test_a_relation_left_out(self):
        for at in range(len(PROGRAM)):
            left = PROGRAM[:at] + PROGRAM[at + 1:]
            self.assertIs(is_program(left), program_right(left))

    def test_spoilt_at_any_place_and_depth(self):
        rng = Random(11)
        told = {True: 0, False: 0}
        for program in ((EVEN, ODD), (APPEND,), (NEVER, TRUE), (MEMBER, TRUE)):
            for thing in [*spoilt(program), *spoilt_twice(program, rng, 300)]:
                right = program_right(thing)
                told[right] += 1
                self.assertIs(is_program(thing), right, thing)
        self.assertTrue(min(told.values()) > 100, told)

    def test_more_than_the_bounds(self):
        many = tuple((f"{one}{two}", (), ("call", f"{two}{one}", ())) for one in "abcdefgh" for two in "abcdefgh")
        self.assertIs(is_program(many), True)
        self.assertIs(is_program(many[:-1]), True)
        self.assertIs(is_program(many[:1] + many[2:]), False)
        deep = ("same", LONG, -LONG)
        for _ in range(28):
            deep = ("both", (deep,))
        self.assertIs(is_program((("a", (), deep),)), True)


if __name__ == "__main__":
    unittest.main()
