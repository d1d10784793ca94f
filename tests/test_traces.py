import copy
import unittest
from random import Random

from oracles import has_part, is_number, is_word
from programs import A, APPEND, D, EVEN, GOALS, PROGRAM, X, Y, Z, GoalMaker, name
from samples import NO_TERMS, TERMS, grown, heads_within, listed, unknown
from spoiling import ANYTHING, deep_tuple, spoilt, spoilt_twice

from fairsearch.goals import is_goal
from fairsearch.terms import is_ground, is_term
from fairsearch.traces import path_of, trace_holds


def filled(term, values):
    if type(term) is tuple and len(term) == 2:
        if term[0] == "?":
            return values[term[1]]
        return (filled(term[0], values), filled(term[1], values))
    return term


def so(goal, values):
    word, *parts = goal
    if word == "absent":
        return not has_part(filled(parts[1], values), parts[0])
    terms = [filled(part, values) for part in parts]
    if word == "number":
        return is_number(terms[0])
    if word == "word":
        return is_word(terms[0])
    return (terms[0] == terms[1]) == (word == "same")


def is_tuple(thing, many):
    return type(thing) is tuple and len(thing) == many


def by_clauses(program, goal, values, thing):
    """Whether it is a trace of the goal by the values, a dict, by the document's words."""
    word = goal[0]
    if word == "both":
        return is_tuple(thing, len(goal[1])) and all(
            by_clauses(program, part, values, trace) for part, trace in zip(goal[1], thing))
    if word == "either":
        if not is_tuple(thing, 2) or type(thing[0]) is not int or not 0 <= thing[0] < len(goal[1]):
            return False
        return by_clauses(program, goal[1][thing[0]], values, thing[1])
    if word == "fresh":
        if not is_tuple(thing, 2) or not is_tuple(thing[0], len(goal[1])):
            return False
        if not all(is_term(term) and is_ground(term) for term in thing[0]):
            return False
        return by_clauses(program, goal[2], {**values, **dict(zip(goal[1], thing[0]))}, thing[1])
    if word == "call":
        names, inner = {row[0]: row[1:] for row in program}[goal[1]]
        terms = [filled(term, values) for term in goal[2]]
        return is_tuple(thing, 1) and by_clauses(program, inner, dict(zip(names, terms)), thing[0])
    return type(thing) is tuple and thing == () and so(goal, values)


def path_by_clauses(program, goal, trace):
    word = goal[0]
    if word == "both":
        return tuple(n for part, inner in zip(goal[1], trace) for n in path_by_clauses(program, part, inner))
    if word == "either":
        return (trace[0], *path_by_clauses(program, goal[1][trace[0]], trace[1]))
    if word == "fresh":
        return path_by_clauses(program, goal[2], trace[1])
    if word == "call":
        inner, = (row[2] for row in program if row[0] == goal[1])
        return (0, *path_by_clauses(program, inner, trace[0]))
    return ()


def append_trace(one, other):
    """The trace of append's goal, by the two lists and the one of both."""
    if one == ():
        return (0, ((), ()))
    whole = joined(one[1], other)
    return (1, ((one[0], one[1], whole), ((), (), (append_trace(one[1], other),))))


def joined(one, other):
    return other if one == () else (one[0], joined(one[1], other))


def even_trace(term):
    return (0, ()) if term == () else (1, ((term[1],), ((), (odd_trace(term[1]),))))


def odd_trace(term):
    return ((term[1],), ((), (even_trace(term[1]),)))


def member_trace(term, row):
    if row[0] == term:
        return (row, ((), (0, ())))
    return (row, ((), (1, ((), (member_trace(term, row[1]),)))))


def ones(many):
    return listed(*["one"] * many)


L123, L4 = listed(1, "a", (2, 3)), listed(4)

# Names, a goal, values, a trace, and its path.
ROWS = [
    ((), ("same", 1, 1), (), (), ()),
    (("x",), ("same", X, 1), (1,), (), ()),
    (("x", "y"), ("same", (X, 1), (2, Y)), (2, 1), (), ()),
    (("x", "y"), ("unlike", X, Y), (1, 2), (), ()),
    (("x", "y"), ("unlike", (X, 1), (X, Y)), (1, "a"), (), ()),
    (("x",), ("number", X), (-5,), (), ()),
    (("x",), ("word", X), ("a",), (), ()),
    (("x",), ("absent", 1, X), (listed(2, 11, "a"),), (), ()),
    (("x",), ("absent", "a", (X, ())), (1,), (), ()),
    (("x",), ("both", ()), (1,), (), ()),
    (("x",), ("both", (("number", X), ("both", (("same", X, 1),)))), (1,), ((), ((),)), ()),
    (("x",), ("either", (("number", X), ("word", X))), (1,), (0, ()), (0,)),
    (("x",), ("either", (("number", X), ("word", X))), ("a",), (1, ()), (1,)),
    (("x",), ("either", (("same", X, 1), ("number", X), ("same", 1, X))), (1,), (2, ()), (2,)),
    (("x",), ("fresh", ("a",), ("same", X, (A, A))), ((2, 2),), ((2,), ()), ()),
    (("x",), ("fresh", ("x",), ("same", X, 5)), (1,), ((5,), ()), ()),
    (("x",), ("fresh", ("a", "x"), ("both", (("same", X, 5), ("same", A, 6)))), (1,), ((6, 5), ((), ())), ()),
    (("x",), ("fresh", ("a",), ("both", (("same", A, X), ("fresh", ("x",), ("same", (A, X), (1, 2)))))), (1,),
     ((1,), ((), ((2,), ()))), ()),
    ((), ("call", "true", ()), (), ((),), (0,)),
    (("x", "y"), ("call", "twice", (X, Y)), (3, (3, 3)), (((3,), ((), (), ((1, 2), ((), ())))),), (0,)),
    (("x", "l"), ("call", "free", (X, name("l"))), ("yes", listed("not", 1)), (((), (), ()),), (0,)),
    (("x",), ("call", "even", (X,)), (ones(4),), (even_trace(ones(4)),), (0, 1, 0, 0, 1, 0, 0, 0)),
    (("x",), ("call", "odd", (X,)), (ones(3),), (odd_trace(ones(3)),), (0, 0, 1, 0, 0, 0)),
    (("x",), ("call", "odd", (("one", X),)), (ones(2),), (odd_trace(ones(3)),), (0, 0, 1, 0, 0, 0)),
    (("x", "y"), ("call", "append", (X, Y, joined(L123, L4))), (L123, L4), (append_trace(L123, L4),),
     (0, 1, 0, 1, 0, 1, 0, 0)),
    (("x",), ("call", "member", (X, L123)), ((2, 3),), (member_trace((2, 3), L123),), (0, 1, 0, 1, 0, 0)),
    (("x",), ("both", (
        ("either", (("word", X), ("call", "even", (X,)))),
        ("call", "true", ()),
        ("fresh", ("y",), ("either", (("both", (("same", Y, X), ("either", (("word", Y), ("call", "even", (Y,)))))),))),
    )), (ones(2),), ((1, (even_trace(ones(2)),)), ((),), ((ones(2),), (0, ((), (1, (even_trace(ones(2)),)))))),
     (1, 0, 1, 0, 0, 0, 0, 0, 1, 0, 1, 0, 0, 0)),
]


class Traces(unittest.TestCase):
    def test_of_each_kind_of_goal(self):
        for names, goal, values, trace, path in ROWS:
            with self.subTest(goal):
                self.assertIs(is_goal(PROGRAM, names, goal), True)
                self.assertIs(trace_holds(PROGRAM, names, goal, values, trace), True)
                self.assertIs(by_clauses(PROGRAM, goal, dict(zip(names, values)), trace), True)

    def test_paths(self):
        for names, goal, values, trace, path in ROWS:
            with self.subTest(goal):
                self.assertEqual(path_of(PROGRAM, goal, trace), path)
                self.assertEqual(path_by_clauses(PROGRAM, goal, trace), path)
                self.assertIsInstance(path_of(PROGRAM, goal, trace), tuple)

    NONE = [
        (("same", X, 1), (2,), ()), (("same", X, 1), (1,), [()]), (("same", X, 1), (1,), []), (("same", X, 1), (1,), ((),)),
        (("same", X, 1), (1,), None), (("same", X, 1), (1,), True), (("same", X, 1), (1,), 0), (("same", X, 1), (1,), ""),
        (("same", X, 1), ("a",), ()), (("same", (X, X), (1, 2)), (1,), ()), (("same", X, ()), (((), ()),), ()),
        (("unlike", X, 1), (1,), ()), (("unlike", (X, 2), (1, X)), (1,), ((),)), (("number", X), ("a",), ()),
        (("number", X), ((),), ()), (("number", X), ((1, 2),), ()), (("word", X), (1,), ()), (("word", X), ((),), ()),
        (("word", X), (("a", "b"),), ()), (("absent", 1, X), (1,), ()), (("absent", 1, X), (listed(2, listed(3, 1)),), ()),
        (("absent", "a", (X, "a")), (1,), ()), (("absent", -1, X), ((2, -1),), ()),
        (("both", ()), (1,), ((),)), (("both", ()), (1,), []), (("both", (("number", X),)), (1,), ()),
        (("both", (("number", X),)), (1,), ((), ())), (("both", (("number", X), ("word", X))), (1,), ((), ())),
        (("both", (("number", X),)), (1,), [()]), (("both", (("number", X), ("number", X))), (1,), ((), None)),
        (("either", ()), (1,), ()), (("either", ()), (1,), (0, ())), (("either", (("number", X),)), (1,), ()),
        (("either", (("number", X),)), (1,), (1, ())), (("either", (("number", X),)), (1,), (-1, ())),
        (("either", (("number", X),)), (1,), (False, ())), (("either", (("number", X),)), (1,), (0,)),
        (("either", (("number", X),)), (1,), (0, (), ())), (("either", (("number", X),)), (1,), [0, ()]),
        (("either", (("number", X),)), (1,), ("0", ())), (("either", (("word", X), ("number", X))), (1,), (True, ())),
        (("either", (("word", X), ("number", X))), (1,), (0, ())), (("either", (("word", X), ("number", X))), (1,), (-1, ())),
        (("fresh", ("a",), ("same", A, X)), (1,), ()), (("fresh", ("a",), ("same", A, X)), (1,), ((), ())),
        (("fresh", ("a",), ("same", A, X)), (1,), ((1, 1), ())), (("fresh", ("a",), ("same", A, X)), (1,), ((2,), ())),
        (("fresh", ("a",), ("same", A, X)), (1,), ([1], ())), (("fresh", ("a",), ("same", A, X)), (1,), (1, ())),
        (("fresh", ("a",), ("same", A, X)), (1,), ((True,), ())), (("fresh", ("a",), ("same", A, X)), (1,), [(1,), ()]),
        (("fresh", ("a",), ("same", A, X)), (1,), ((1,),)), (("fresh", ("a",), ("same", A, X)), (1,), ((1,), (), ())),
        (("fresh", ("a",), ("both", ())), (1,), ((unknown(0),), ())), (("fresh", ("a",), ("both", ())), (1,), ((A,), ())),
        (("fresh", ("a",), ("both", ())), (1,), (((1, unknown(3)),), ())), (("fresh", ("a",), ("both", ())), (1,), (("A",), ())),
        (("fresh", ("x",), ("same", X, 1)), (1,), ((2,), ())), (("fresh", ("a",), ("both", ())), (1,), ((1,), ((),))),
        (("call", "true", ()), (1,), ()), (("call", "true", ()), (1,), ((), ())), (("call", "true", ()), (1,), [()]),
        (("call", "true", ()), (1,), (((),),)), (("call", "true", ()), (1,), ([],)), (("call", "never", ()), (1,), ((),)),
        (("call", "never", ()), (1,), ((0, ()),)), (("call", "even", (X,)), (ones(3),), (even_trace(ones(2)),)),
        (("call", "even", (X,)), (ones(3),), (odd_trace(ones(3)),)), (("call", "even", (X,)), (ones(2),), even_trace(ones(2))),
    ]

    def test_what_is_none(self):
        for goal, values, thing in self.NONE:
            with self.subTest(goal=goal, thing=thing):
                self.assertIs(trace_holds(PROGRAM, ("x",), goal, values, thing), False)
                self.assertIs(by_clauses(PROGRAM, goal, {"x": values[0]}, thing), False)

    def test_for_other_values(self):
        told = {True: 0, False: 0}
        others = [0, 1, 2, "a", (), (2, 2), (3, 3), ones(2), ones(3), ones(4), L123, L4]
        for names, goal, values, trace, path in ROWS:
            for at in range(len(names)):
                for other in others:
                    changed = (*values[:at], other, *values[at + 1:])
                    right = by_clauses(PROGRAM, goal, dict(zip(names, changed)), trace)
                    told[right] += 1
                    self.assertIs(trace_holds(PROGRAM, names, goal, changed, trace), right)
        self.assertTrue(min(told.values()) > 20, told)

    def test_for_other_goals(self):
        for names, goal, values, trace, path in ROWS:
            for other in GOALS:
                known = {"x": 1, "y": ones(2), **dict(zip(names, values))}
                right = by_clauses(PROGRAM, other, known, trace)
                self.assertIs(trace_holds(PROGRAM, tuple(known), other, tuple(known.values()), trace), right)

    def test_spoilt_at_any_place_and_depth(self):
        rng = Random(12)
        told = {True: 0, False: 0}
        for names, goal, values, trace, path in ROWS:
            known = dict(zip(names, values))
            for thing in [*spoilt(trace), *spoilt_twice(trace, rng, 200)]:
                right = by_clauses(PROGRAM, goal, known, thing)
                told[right] += 1
                self.assertIs(trace_holds(PROGRAM, names, goal, values, thing), right, (goal, thing))
        self.assertTrue(min(told.values()) > 100, told)

    def test_of_anything(self):
        for thing in [*ANYTHING, *NO_TERMS, *TERMS, deep_tuple(59), (0, deep_tuple(58)), (deep_tuple(58), 0)]:
            before = copy.deepcopy(thing)
            for names, goal, values, trace, path in ROWS:
                right = by_clauses(PROGRAM, goal, dict(zip(names, values)), thing)
                self.assertIs(trace_holds(PROGRAM, names, goal, values, thing), right)
            self.assertEqual(repr(thing), repr(before))

    def test_a_fresh_name_hides_the_one_around_it(self):
        goal = ("fresh", ("x",), ("both", (("same", X, 1), ("fresh", ("x",), ("same", X, 2)), ("same", X, 1))))
        trace = ((1,), ((), ((2,), ()), ()))
        self.assertIs(trace_holds((), ("x",), goal, ("a",), trace), True)
        self.assertIs(trace_holds((), ("x",), goal, ("a",), ((2,), ((), ((1,), ()), ()))), False)
        after = ("both", (goal, ("same", X, "a")))
        self.assertIs(trace_holds((), ("x",), after, ("a",), (trace, ())), True)
        self.assertIs(trace_holds((), ("x",), after, (1,), (trace, ())), False)

    def test_a_relation_knows_its_own_names_alone(self):
        program = (("swap", ("x", "y"), ("same", (X, Y), (1, 2))),)
        goal = ("call", "swap", (Y, X))
        self.assertIs(trace_holds(program, ("x", "y"), goal, (2, 1), ((),)), True)
        self.assertIs(trace_holds(program, ("x", "y"), goal, (1, 2), ((),)), False)

    def test_by_chance(self):
        for seed in range(300):
            maker = GoalMaker(seed, PROGRAM[-2:])
            goal = maker.goal(("x", "y"), 3)
            known = {"x": maker.rng.choice((1, "a", ())), "y": maker.rng.choice((0, ("one", 1)))}
            trace = self.some_trace(goal, known, maker.rng)
            for thing in [trace, *([] if trace is None else spoilt_twice(trace, maker.rng, 10))]:
                right = by_clauses(PROGRAM, goal, known, thing)
                self.assertIs(trace_holds(PROGRAM, ("x", "y"), goal, (known["x"], known["y"]), thing), right)
                if right:
                    self.assertEqual(path_of(PROGRAM, goal, thing), path_by_clauses(PROGRAM, goal, thing))

    def some_trace(self, goal, known, rng):
        """What may be a trace, by its form."""
        word = goal[0]
        if word == "both":
            return tuple(self.some_trace(part, known, rng) for part in goal[1])
        if word == "either":
            at = rng.randrange(len(goal[1]) or 1)
            return (at, self.some_trace(goal[1][at], known, rng)) if goal[1] else None
        if word == "fresh":
            return (tuple(rng.choice((0, 1, "a", ())) for _ in goal[1]), self.some_trace(goal[2], known, rng))
        if word == "call":
            return (self.some_trace({row[0]: row[2] for row in PROGRAM}[goal[1]], known, rng),)
        return ()


class Bounds(unittest.TestCase):
    def test_150_tuples_within_one_another(self):
        program = (("down", ("x",), ("either", (("same", X, ()), ("call", "down", (X,))))),)
        trace = (0, ())
        for _ in range(73):
            trace = (1, (trace,))
        path = (0, *(1, 0) * 73, 0)
        self.assertIs(trace_holds(program, ("x",), ("call", "down", (X,)), ((),), (trace,)), True)
        self.assertIs(trace_holds(program, ("x",), ("call", "down", (X,)), (1,), (trace,)), False)
        self.assertEqual(path_of(program, ("call", "down", (X,)), (trace,)), path)

    def test_great_values(self):
        value = grown(300, 50, lambda at: at)
        goal = ("fresh", ("z",), ("both", (("same", Z, (X, Y)), ("absent", "a", Z), ("absent", 500, Z))))
        for names in (("x", "y"),):
            self.assertIs(trace_holds((), names, goal, (value, value), (((value, value),), ((), (), ()))), True)
            self.assertIs(trace_holds((), names, goal, (value, heads_within(50, "a")),
                                      (((value, heads_within(50, "a")),), ((), (), ()))), False)
            self.assertIs(trace_holds((), names, goal, (heads_within(50, 500), value),
                                      (((heads_within(50, 500), value),), ((), (), ()))), False)

    def test_values_that_grow_through_calls(self):
        # Each call has a value of twice as many parts: written out, they would never end.
        program = (("grow", ("x", "y"), ("either", (
            ("both", (("same", X, Y), ("absent", "a", X))), ("unlike", X, Y), ("call", "grow", ((X, X), (Y, Y))),
        ))),)
        for end, one, other, right in (((0, ((), ())), 1, 1, True), ((0, ((), ())), 1, 2, False),
                                       ((0, ((), ())), "a", "a", False), ((1, ()), 1, 2, True), ((1, ()), 1, 1, False)):
            trace = end
            for _ in range(28):
                trace = (2, (trace,))
            self.assertIs(trace_holds(program, ("x", "y"), ("call", "grow", (X, Y)), (one, other), (trace,)), right)

    def test_long_lists(self):
        row = listed(*range(24))
        for names, goal, values, trace in (
            (("x", "y"), ("fresh", ("z",), ("call", "append", (X, Y, Z))), (row, L4),
             ((joined(row, L4),), (append_trace(row, L4),))),
            (("x",), ("call", "even", (X,)), (ones(40),), (even_trace(ones(40)),)),
            (("x", "y"), ("call", "member", (X, Y)), (23, row), (member_trace(23, row),)),
        ):
            self.assertIs(trace_holds(PROGRAM, names, goal, values, trace), True)
            self.assertEqual(path_of(PROGRAM, goal, trace), path_by_clauses(PROGRAM, goal, trace))

    def test_the_same_again(self):
        program = (APPEND, EVEN, *PROGRAM[2:])
        for names, goal, values, trace, path in ROWS:
            self.assertIs(trace_holds(program, names, goal, values, trace), True)
            self.assertEqual(path_of(program, goal, trace), path_of(program, goal, trace))

    def test_a_value_as_a_term_of_a_name(self):
        self.assertIs(trace_holds((), ("d",), ("same", D, ("d", ())), (("d", ()),), ()), True)


if __name__ == "__main__":
    unittest.main()
