import copy
import unittest
from random import Random

from plainsearch import plain_events
from programs import ENDING, ENDLESS, PROGRAM, WORLD, X, Y, random_question
from samples import LONG, grown, heads_within, listed

from fairsearch.goaltexts import read_goal, read_program
from fairsearch.searches import Search
from fairsearch.showing import covered, covers
from fairsearch.traces import path_of, trace_holds
from fairsearch.tracing import trace_along

POOL = [0, 1, -3, 10, "a", "b", "c", "one", (), (0, 0), (1, "a"), ("one", ()), listed(1, "a", 2), listed("one", "one")]


def count_trace(term):
    return (0, ()) if term == () else (1, ((term[1],), ((), (count_trace(term[1]),))))


def append_trace(one, other):
    if one == ():
        return (0, ((), ()))
    return (1, ((one[0], one[1], appended(one[1], other)), ((), (), (append_trace(one[1], other),))))


def appended(one, other):
    return other if one == () else (one[0], appended(one[1], other))


class Along(unittest.TestCase):
    def along(self, names, goal, path, values, program=""):
        program, goal = read_program(program), read_goal(goal)
        trace = trace_along(program, tuple(names.split()), goal, path, values)
        if trace is not None:
            self.assertIs(trace_holds(program, tuple(names.split()), goal, values, trace), True)
            self.assertEqual(path_of(program, goal, trace), path)
        return trace

    def test_of_each_kind_of_goal(self):
        for names, goal, path, values, trace in (
            ("", "both 0", (), (), ()),
            ("x", "same ?x 1", (), (1,), ()),
            ("x y", "unlike ?x ?y", (), (1, 2), ()),
            ("x", "number ?x", (), (-LONG,), ()),
            ("x", "word ?x", (), ("a",), ()),
            ("x", "absent 1 ?x", (), (listed(2, 3),), ()),
            ("x", "both 2 number ?x both 1 same ?x 1", (), (1,), ((), ((),))),
            ("x", "either 2 word ?x number ?x", (1,), (1,), (1, ())),
            ("x", "fresh 1 a same ?x (?a ?a)", (), (listed(2, 2),), ((2,), ())),
            ("x", "fresh 2 a x both 2 same ?a 1 same ?x (?a)", (), (7,), ((1, listed(1)), ((), ()))),
            ("x", "call nil 1 ?x", (0,), ((),), ((),)),
            ("x", "both 3 either 1 both 0 call nil 1 ?x either 1 both 0", (0, 0, 0), ((),), ((0, ()), ((),), (0, ()))),
        ):
            with self.subTest(goal):
                self.assertEqual(self.along(names, goal, path, values, "nil 1 y = same ?y ()"), trace)

    def test_none(self):
        for names, goal, path, values in (
            ("", "either 0", (), ()), ("", "either 0", (0,), ()), ("", "both 0", (0,), ()), ("x", "same ?x 1", (), (2,)),
            ("x", "same ?x 1", (0,), (1,)), ("x", "either 2 number ?x word ?x", (), (1,)),
            ("x", "either 2 number ?x word ?x", (1,), (1,)), ("x", "either 2 number ?x word ?x", (2,), (1,)),
            ("x", "either 2 number ?x word ?x", (0, 0), (1,)), ("x", "either 1 either 1 number ?x", (0,), (1,)),
            ("x", "call nil 1 ?x", (), ((),)), ("x", "call nil 1 ?x", (1,), ((),)), ("x", "call nil 1 ?x", (0, 0), ((),)),
            ("x", "call nil 1 ?x", (0,), (1,)), ("x", "fresh 1 a same ?x (?a ?a)", (), (listed(1, 2),)),
            ("x", "fresh 1 a both 2 same ?a ?x unlike ?a ?x", (), (1,)), ("x", "either 2 both 0 both 0", (LONG,), (1,)),
            ("x", "both 2 same ?x 1 either 2 both 0 both 0", (0,), (2,)), ("x", "fresh 1 a both 2 number ?a word ?a", (), (1,)),
        ):
            with self.subTest(goal=goal, path=path):
                self.assertIsNone(self.along(names, goal, path, values, "nil 1 y = same ?y ()"))

    def test_fresh_names_that_are_free_but_for_limits(self):
        for goal in (
            "fresh 1 a both 0", "fresh 2 a b unlike ?a ?b", "fresh 2 a b both 2 unlike ?a ?x unlike (?a . ?b) (0 . 1)",
            "fresh 3 a b c both 4 unlike ?a ?b unlike ?b ?c unlike ?c ?a unlike ?a 0", "fresh 1 a word ?a",
            "fresh 2 a b both 3 word ?a word ?b unlike ?a ?b", "fresh 2 a b both 2 number ?a same ?a ?b",
            "fresh 1 a both 4 absent 0 ?a absent 1 ?a absent 2 ?a absent a ?a",
            "fresh 2 a b both 4 absent 7 (?a ?b) number ?b unlike ?a ?b same ?a (?b . ?x)",
            "fresh 2 a b both 3 word ?a absent a ?a same ?b (?a ?a)",
            "fresh 1 x fresh 2 a b both 3 unlike ?x ?a same ?b (?x . ?a) absent b ?b",
            "fresh 1 a both 2 unlike ?a ?x fresh 1 a both 2 unlike ?a ?x number ?a",
            "fresh 2 a b both 3 unlike (?a . ?b) (1 . ?x) same ?a 1 number ?b",
            "fresh 1 a both 6 number ?a unlike ?a 0 unlike ?a 1 unlike ?a 2 unlike ?a (?a) absent 3 ?a",
        ):
            for value in (0, 1, "a", "b", (), (0, 1)):
                self.assertIsNotNone(self.along("x", goal, (), (value,)), (goal, value))

    def test_names_of_fresh_goals_in_calls(self):
        program = "new 2 x y = fresh 2 x a both 3 same ?y (?x . ?a) unlike ?x ?a word ?a"
        self.assertEqual(self.along("x y", "call new 2 ?y ?x", (0,), ((1, "a"), 5), program), (((1, "a"), ((), (), ())),))
        self.assertIsNone(self.along("x y", "call new 2 ?y ?x", (0,), (("a", "a"), 5), program))
        self.assertIsNotNone(self.along("x", "fresh 1 y call new 2 ?x ?y", (0,), (5,), program))


class Answers(unittest.TestCase):
    def check_answer(self, program, names, goal, path, shown, rng):
        counts = {True: 0, False: 0}
        tries = [covered(shown), *[tuple(rng.choice(POOL) for _ in names) for _ in range(6)]]
        for values in tries:
            right = covers(shown, values)
            counts[right] += 1
            trace = trace_along(program, names, goal, path, values)
            self.assertIs(trace is not None, right, (goal, path, values))
            if right:
                self.assertIs(trace_holds(program, names, goal, values, trace), True)
                self.assertEqual(path_of(program, goal, trace), path)
        return counts

    def test_for_just_the_values_that_an_answer_covers(self):
        rng = Random(16)
        told = {True: 0, False: 0}
        for names, goal in [*ENDLESS, *ENDING]:
            for path, shown in Search(WORLD, names, goal).take(10, limit=80):
                for right, many in self.check_answer(WORLD, names, goal, path, shown, rng).items():
                    told[right] += many
        self.assertTrue(min(told.values()) > 100, told)

    def test_by_chance(self):
        rng = Random(17)
        told = {True: 0, False: 0}
        for seed in range(1200):
            program, names, goal = random_question(seed)
            for path, word, shown, opened, rounds in plain_events(program, names, goal, 20):
                if word == "answer":
                    for right, many in self.check_answer(program, names, goal, path, shown, rng).items():
                        told[right] += many
                else:
                    for values in ((1, 1), ("a", ()), ((0, 1), listed("one"))):
                        self.assertIsNone(trace_along(program, names, goal, path, values))
        self.assertTrue(min(told.values()) > 500, told)

    def test_other_paths(self):
        for names, goal in [*ENDLESS, *ENDING]:
            events = plain_events(WORLD, names, goal, 80)
            answers = {path: shown for path, word, shown, opened, rounds in events if word == "answer"}
            deepest = max(len(path) for path, *rest in events)
            for path in list(answers)[:6]:
                values = covered(answers[path])
                others = [path[:at] for at in range(len(path))] + [(*path, 0), (*path, 1), (*path, 0, 0)]
                others += [(*path[:at], new, *path[at + 1:]) for at in range(len(path)) for new in (0, 1, 2, 3, 7)]
                for other in others:
                    if len(other) >= deepest:
                        continue
                    trace = trace_along(WORLD, names, goal, other, values)
                    right = other in answers and covers(answers[other], values)
                    self.assertIs(trace is not None, right, (goal, other))

    def test_whoever_wrote_a_trace_an_answer_comes_along_its_path(self):
        ones = listed("one", "one")
        written = (
            (("x",), ("call", "count", (X,)), (ones,), (count_trace(ones),)),
            (("x", "y"), ("call", "append", (X, Y, ones)), (ones, ()), (append_trace(ones, ()),)),
            (("x",), ("call", "walk", ("c", X)), ("b",), ((1, (("a",), (((2, ()),), ((0, ((0, ()),)),)))),)),
        )
        for names, goal, values, trace in written:
            self.assertIs(trace_holds(WORLD, names, goal, values, trace), True, goal)
            path = path_of(WORLD, goal, trace)
            search = Search(WORLD, names, goal)
            answers = dict(search.take(300, limit=300))
            self.assertIs(covers(answers[path], values), True)
            search = Search(WORLD, names, goal)
            while True:
                (came, shown), = search.take()
                if came == path:
                    break
            self.assertEqual(search.rounds(), len(path) + 1)
            self.assertIsNotNone(trace_along(WORLD, names, goal, path, values))


class Bounds(unittest.TestCase):
    def test_great_values(self):
        value = grown(300, 50, lambda at: at)
        goal = ("fresh", ("z",), ("both", (("same", ("?", "z"), (X, Y)), ("absent", "a", ("?", "z")))))
        trace = trace_along((), ("x", "y"), goal, (), (value, value))
        self.assertEqual(trace, (((value, value),), ((), ())))
        self.assertIsNone(trace_along((), ("x", "y"), goal, (), (value, heads_within(50, "a"))))

    def test_thirty_numbers_and_more(self):
        for many in (14, 29, 145):
            value = listed(*["one"] * many)
            path = (0, *(1, 0) * many, 0)
            goal = ("call", "count", (X,))
            trace = trace_along(WORLD, ("x",), goal, path, (value,))
            self.assertIs(trace_holds(WORLD, ("x",), goal, (value,), trace), True)
            self.assertEqual(path_of(WORLD, goal, trace), path)
            self.assertIsNone(trace_along(WORLD, ("x",), goal, path, (listed(*["one"] * (many - 1)),)))
            self.assertIsNone(trace_along(WORLD, ("x",), goal, (*path[:-1], 1), (value,)))

    def test_the_same_again_and_nothing_changed(self):
        before = copy.deepcopy((PROGRAM, WORLD, ENDING))
        for names, goal in ENDING:
            for path, shown in Search(WORLD, names, goal).take(3):
                values = covered(shown)
                trace = trace_along(WORLD, names, goal, path, values)
                self.assertEqual(trace_along(WORLD, names, goal, path, values), trace)
                self.assertIsInstance(trace, tuple)
        self.assertEqual((PROGRAM, WORLD, ENDING), before)


if __name__ == "__main__":
    unittest.main()
