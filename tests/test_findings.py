import copy
import unittest
from random import Random

from making import Maker
from plainsearch import plain_events
from programs import ENDING, ENDLESS, GOALS, PROGRAM, WORLD, X, Y, random_question
from samples import LONG, NO_TERMS, TERMS, listed, unknown
from spoiling import ANYTHING, everywhere, spoilt, spoilt_twice

from fairsearch.ends import end_paper
from fairsearch.fillings import alike, is_filling
from fairsearch.findings import finding_holds
from fairsearch.goals import is_goal, is_program
from fairsearch.goaltexts import read_goal, read_program
from fairsearch.never import never
from fairsearch.neverchecks import never_holds
from fairsearch.endchecks import end_holds
from fairsearch.searches import Search
from fairsearch.showing import covered
from fairsearch.terms import is_ground, is_term, is_word
from fairsearch.traces import trace_holds
from fairsearch.tracing import trace_along

U, V, W = unknown(0), unknown(1), unknown(2)


def is_question(program, names, goal):
    if not is_program(program) or type(names) is not tuple or not all(map(is_word, names)):
        return False
    return len(set(names)) == len(names) and is_goal(program, names, goal)


def by_the_words(thing):
    """Whether it is a finding that holds, each kind by what tells such; None where a Search would be too long."""
    if type(thing) is not tuple or not thing or type(thing[0]) is not str:
        return False
    word, *parts = thing
    if word in ("alike", "never"):
        if len(parts) != 3 or not is_term(parts[0]) or not is_term(parts[1]):
            return False
        if word == "never":
            return never_holds(*parts)
        return is_filling(parts[2]) and alike(*parts[:2]) == parts[2]
    if len(parts) != {"trace": 5, "answer": 5, "end": 4}.get(word) or not is_question(*parts[:3]):
        return False
    if word == "trace":
        values = parts[3]
        if type(values) is not tuple or len(values) != len(parts[1]):
            return False
        return all(is_term(one) and is_ground(one) for one in values) and trace_holds(*parts)
    if word == "end":
        return end_holds(*parts)
    return answer_by_search(parts)


def answer_by_search(parts):
    path = parts[3]
    if type(path) is not tuple or not all(type(at) is int and at >= 0 for at in path):
        return False
    events = plain_events(*parts[:3], 70)
    for came, kind, shown, opened, rounds in events:
        if came == path:
            return kind == "answer" and repr(shown) == repr(parts[4])
    return False if not events or not events[-1][3] or len(path) < events[-1][4] - 1 else None


def found():
    """Findings as the program tells them."""
    for one, other in ((U, 1), ((U, V), (V, 1)), ((U, (V, ())), (W, (U, ()))), (1, 1), ((U, U), ((V, 1), (W, W))), ((), ())):
        filling = alike(one, other)
        yield ("alike", one, other, filling) if filling is not None else ("never", one, other, never(one, other))
    for one, other in ((1, 2), ((U, U), (1, 2)), (U, (1, U)), ((U, V), ((1, V), (2, U))), (listed(1, U), listed(U, 2))):
        yield ("never", one, other, never(one, other))
    for names, goal in [*ENDLESS, *ENDING]:
        for path, shown in Search(WORLD, names, goal).take(3, limit=30):
            yield ("answer", WORLD, names, goal, path, shown)
            values = covered(shown)
            yield ("trace", WORLD, names, goal, values, trace_along(WORLD, names, goal, path, values))
    for names, goal in ENDING:
        yield ("end", WORLD, names, goal, end_paper(WORLD, names, goal))


def small_found():
    """Findings with small programs, to be spoilt everywhere."""
    program = read_program("any 2 x y = either 2 unlike ?x ?y fresh 1 a both 3 same ?x (?a) number ?a absent b ?y")
    names, goal = ("x", "y"), ("call", "any", (X, Y))
    yield ("alike", (U, (V, W)), (V, (1, U)), alike((U, (V, W)), (V, (1, U))))
    yield ("alike", (W, V), (U, U), alike((W, V), (U, U)))
    yield ("never", (U, U), (1, 2), never((U, U), (1, 2)))
    yield ("never", U, (1, U), never(U, (1, U)))
    for path, shown in Search(program, names, goal).take(2):
        yield ("answer", program, names, goal, path, shown)
        values = covered(shown)
        yield ("trace", program, names, goal, values, trace_along(program, names, goal, path, values))
    yield ("end", program, names, goal, end_paper(program, names, goal))
    yield ("answer", (), ("x", "y"), ("both", (("word", X), ("unlike", X, "a"), ("absent", "b", Y))), (),
           ((U, V), (((0, "a"),),), ((0, "word"),), ((1, "b"),)))


class Holds(unittest.TestCase):
    def check(self, thing):
        """Asks of a thing, and tells whether it is so by the words, None where these don't tell."""
        right = by_the_words(thing)
        got = finding_holds(thing)
        self.assertIs(type(got), bool)
        self.assertIn(got, (True, False) if right is None else (right,), thing)
        return right

    def test_as_told_by_the_program(self):
        kinds = {}
        for finding in [*found(), *small_found()]:
            self.assertIs(finding_holds(finding), True, finding)
            kinds[finding[0]] = kinds.get(finding[0], 0) + 1
        self.assertEqual(set(kinds), {"alike", "never", "trace", "answer", "end"})
        self.assertTrue(min(kinds.values()) > 4, kinds)

    def test_by_chance(self):
        for seed in range(150):
            maker = Maker(seed)
            for one, other in maker.pairs(6):
                filling, paper = alike(one, other), never(one, other)
                self.assertIs((filling is None) != (paper is None), True)
                kind = ("never", one, other, paper) if filling is None else ("alike", one, other, filling)
                self.assertIs(finding_holds(kind), True)
                self.assertIs(finding_holds((("alike", "never")[filling is not None], *kind[1:])), False)
                self.assertIs(finding_holds(("alike", one, other, None)), False)
                self.assertIs(finding_holds(("never", one, other, None)), False)
        for seed in range(400):
            question = random_question(seed)
            for path, word, shown, opened, rounds in plain_events(*question, 12):
                if word == "answer":
                    self.assertIs(finding_holds(("answer", *question, path, shown)), True)
                    values = covered(shown)
                    self.assertIs(finding_holds(("trace", *question, values, trace_along(*question, path, values))), True)
                else:
                    self.assertIs(finding_holds(("answer", *question, path, ((U, V), (), (), ()))), False)
            events = plain_events(*question, 12)
            if events and not events[-1][3]:
                paper = tuple(sorted((path, word) for path, word, *rest in events if word != "parted"))
                self.assertIs(finding_holds(("end", *question, paper)), True)
                self.assertIs(finding_holds(("end", *question, paper[1:])), False)

    def test_what_is_not_so(self):
        question = (WORLD, ("x",), ("call", "count", (X,)))
        none = ((), (), (), ())
        for thing in (
            ("alike", 1, 2, ()), ("alike", U, 1, ()), ("alike", U, 1, ((0, 2),)), ("alike", V, U, ((0, V),)),
            ("alike", U, V, ((0, V),)), ("alike", U, V, ((1, U), (2, 1))), ("alike", U, 1, ((0, True),)),
            ("alike", U, 1, [(0, 1)]), ("alike", U, 1, ([0, 1],)), ("alike", True, 1, ()), ("alike", 1, 1), ("alike", 1, 1, (), ()),
            ("alike", U, U, None), ("never", 1, 1, (("given",),)), ("never", U, 1, (("given",),)), ("never", 1, 2, ()),
            ("never", 1, 2, [("given",)]), ("never", True, 2, (("given",),)), ("never", 1, False, (("given",),)),
            ("never", 1, [], (("given",),)), ("never", (1, 2, 3), 4, (("given",),)),
            ("trace", *question, (1,), (0, ())), ("trace", *question, ((),), (0, ())), ("trace", *question, (), ((0, ()),)),
            ("trace", *question, ((), ()), ((0, ()),)), ("trace", *question, [()], ((0, ()),)),
            ("trace", *question, (U,), ((0, ()),)), ("trace", *question, (True,), ((0, ()),)),
            ("trace", (), ("x",), question[2], ((),), ((0, ()),)), ("trace", WORLD, (), question[2], (), ((0, ()),)),
            ("trace", (), ("x",), ("number", X), (True,), ()), ("trace", (), ["x"], ("number", X), (1,), ()),
            ("trace", (), ("x", "x"), ("number", X), (1, 1), ()), ("trace", [], ("x",), ("number", X), (1,), ()),
            ("trace", (), ("x",), ["number", X], (1,), ()), ("trace", (), ("x",), ("number", Y), (1,), ()),
            ("answer", *question, (0, 0), none), ("answer", *question, (0, 1), (((),), (), (), ())),
            ("answer", *question, (0,), (((),), (), (), ())), ("answer", *question, (0, 0, 0), (((),), (), (), ())),
            ("answer", *question, [0, 0], (((),), (), (), ())), ("answer", *question, (0, False), (((),), (), (), ())),
            ("answer", *question, (0, -1), (((),), (), (), ())), ("answer", *question, (0, LONG), (((),), (), (), ())),
            ("answer", *question, (0, 0), [((),), (), (), ()]), ("answer", *question, (0, 0), (((),), (), ())),
            ("answer", *question, (0, 0), (((), ()), (), (), ())), ("answer", *question, (0, 0), (((),), [], (), ())),
            ("answer", (), ("x",), ("same", X, 1), (), ((True,), (), (), ())),
            ("answer", (), ("x",), ("number", X), (), ((U,), (), ((False, "number"),), ())),
            ("answer", (), ("x",), ("absent", 1, X), (), ((U,), (), (), ((0, True),))),
            ("answer", (), ("x",), ("unlike", X, 1), (), ((U,), (((0, True),),), (), ())),
            ("answer", (), ("x",), ("unlike", X, 1), (), ((U,), (((False, 1),),), (), ())),
            ("answer", (), ("x",), ("unlike", X, 1), (), ((U,), (), (), ())),
            ("answer", (), ("x",), ("unlike", X, 1), (), ((V,), (((1, 1),),), (), ())),
            ("answer", (), ("x",), ("both", (("unlike", X, 1), ("unlike", X, 2))), (), ((U,), (((0, 2),), ((0, 1),)), (), ())),
            ("end", *question, ()), ("end", *question, (((0, 0), "answer"),)), ("end", (), ("x",), ("same", X, 1), ()),
            ("end", (), ("x",), ("same", X, 1), (((), "over"),)), ("end", (), ("x",), ("same", X, 1)),
            ("end", (), ("x",), ("same", X, True), (((), "over"),)), ("end", (), ("x",), ("same", Y, 1), (((), "answer"),)),
            ("end", (NO,), ("x",), ("same", X, 1), (((), "answer"),)), ("finding",), ("alike",), (), [],
            ["alike", 1, 1, ()], (("alike",), 1, 1, ()), ("Alike", 1, 1, ()), (None, 1, 1, ()), ("same", 1, 1, ()),
        ):
            with self.subTest(thing):
                self.assertIs(finding_holds(thing), False)
                self.assertIn(by_the_words(thing), (False, None))

    def test_spoilt_at_any_place_and_depth(self):
        rng = Random(22)
        told = {True: 0, False: 0, None: 0}
        for finding in small_found():
            for thing in [*spoilt(finding), *spoilt_twice(finding, rng, 300)]:
                told[self.check(thing)] += 1
        self.assertTrue(told[True] > 50 and told[False] > 5000, told)

    def test_greater_ones_spoilt(self):
        rng = Random(23)
        for finding in found():
            for thing in spoilt_twice(finding, rng, 8):
                self.check(thing)

    def test_parts_of_one_in_another(self):
        every = [*small_found(), *list(found())[::6]]
        rng = Random(24)
        for one in every:
            for other in every:
                for at in range(min(len(one), len(other))):
                    self.check((*one[:at], other[at], *one[at + 1:]))
        for _ in range(500):
            one, other = rng.choice(every), rng.choice(every)
            part = rng.choice(list(everywhere(other)))[0]
            self.check(rng.choice(list(everywhere(one)))[1](part))

    def test_of_anything(self):
        for thing in [*ANYTHING, *TERMS, *NO_TERMS, *GOALS, WORLD, PROGRAM, *ENDING]:
            before = copy.deepcopy(thing)
            self.assertIs(finding_holds(thing), False)
            for word in ("alike", "never", "trace", "answer", "end"):
                for many in range(7):
                    self.check((word, *[thing] * many))
            question = (WORLD, ("x",), ("call", "count", (X,)))
            for whole in (("answer", *question, thing, (((),), (), (), ())), ("answer", *question, (0, 0), thing),
                          ("end", *question, thing), ("trace", *question, ((),), thing), ("trace", *question, thing, ((0, ()),)),
                          ("answer", *question, (0, 0), (((),), thing, thing, thing)), ("never", U, (1, U), thing),
                          ("trace", thing, *question[1:], ((),), ((0, ()),)), ("end", WORLD, thing, ("both", ()), thing)):
                self.check(whole)
            self.assertEqual(repr(thing), repr(before))


class Long(unittest.TestCase):
    def test_an_answers_path_is_gone_along_alone(self):
        # A Search has more branches than it could ever have turns; one path is short.
        either = ("either", (("call", "count", (X,)), ("call", "walk", ("a", X)), ("call", "count", (X,))))
        goal = ("both", (("either", (either,) * 9), ("either", (either,) * 9), ("either", (either,) * 9)))
        path = (8, 0, 0, 0, 8, 2, 0, 0, 8, 0, 0, 0)
        shown = (((),), (), (), ())
        self.assertIs(finding_holds(("answer", WORLD, ("x",), goal, path, shown)), True)
        self.assertIs(finding_holds(("answer", WORLD, ("x",), goal, (*path[:-1], 1), shown)), False)
        self.assertIs(finding_holds(("answer", WORLD, ("x",), goal, path, ((("one", ()),), (), (), ()))), False)

    def test_however_long(self):
        for many in (28, 150, 700):
            goal = ("call", "count", (listed(*["one"] * many),))
            path = (0, *(1, 0) * many, 0)
            self.assertIs(finding_holds(("answer", WORLD, ("x",), goal, path, ((U,), (), (), ()))), True)
            self.assertIs(finding_holds(("answer", WORLD, ("x",), goal, path[:-1], ((U,), (), (), ()))), False)
            self.assertIs(finding_holds(("answer", WORLD, ("x",), goal, (*path, 0), ((U,), (), (), ()))), False)
            value = listed(*["one"] * many)
            self.assertIs(finding_holds(("answer", WORLD, ("x",), ("call", "count", (X,)), path, ((value,), (), (), ()))), True)

    def test_a_long_walk(self):
        around = (0, *(1, 0, 0, 0, 1, 0, 1, 0, 1, 0, 2, 0) * 100)
        goal = ("call", "walk", ("a", X))
        for last, end in (((0, 0, 0), "b"),):
            path = (*around, *last)
            self.assertIs(finding_holds(("answer", WORLD, ("x",), goal, path, ((end,), (), (), ()))), True)
            self.assertIs(finding_holds(("answer", WORLD, ("x",), goal, path, (("c",), (), (), ()))), False)

    def test_along_terms_that_become_great(self):
        program = read_program(
            "grow 2 x y = either 2 unlike ?x ?y fresh 2 a b both 3 same ?a (?x . ?x) same ?b (?y . ?y) call grow 2 ?a ?b")
        goal = ("call", "grow", (X, Y))
        shown = ((U, V), (((1, U),),), (), ())
        self.assertIs(finding_holds(("answer", program, ("x", "y"), goal, (0, 0), shown)), True)
        self.assertIs(finding_holds(("answer", program, ("x", "y"), goal, (0, *(1, 0) * 6, 0), shown)), True)
        self.assertIs(finding_holds(("answer", program, ("x", "y"), goal, (0, *(1, 0) * 6, 0), ((U, V), (), (), ()))), False)
        for many in (100, 400):
            got = finding_holds(("answer", program, ("x", "y"), goal, (0, *(1, 0) * many, 0), ((U, V), (), (), ())))
            self.assertIs(got, False)
        program = read_program("grow 1 x = either 2 both 0 fresh 1 a both 2 same ?x (?a . ?a) call grow 1 ?a")
        for many in (5, 100, 400):
            thing = ("answer", program, ("x",), ("call", "grow", (X,)), (0, *(1, 0) * many, 0), ((U,), (), (), ()))
            self.assertIs(finding_holds(thing), False)

    def test_the_same_again(self):
        for finding in small_found():
            self.assertIs(finding_holds(finding), finding_holds(copy.deepcopy(finding)))

    def test_questions_by_text(self):
        goal = read_goal("both 2 either 2 same ?x 1 same ?x 2 unlike ?x 1")
        self.assertIs(finding_holds(("end", (), ("x",), goal, (((0,), "over"), ((1,), "answer")))), True)
        self.assertIs(finding_holds(("answer", (), ("x",), goal, (1,), ((2,), (), (), ()))), True)
        self.assertIs(finding_holds(("answer", (), ("x",), goal, (0,), ((1,), (), (), ()))), False)


NO = ("no", ("x",), ("call", "none", (X,)))


if __name__ == "__main__":
    unittest.main()
