import copy
import unittest

from plainkept import PlainKept, TooMuch
from programs import A, COUNT, LINK, LOOP, TRUE, WORLD, X, Y, Z, GoalMaker
from samples import listed, unknown

from fairsearch.errors import NotPlain, TooMany
from fairsearch.goals import is_goal, is_program
from fairsearch.goaltexts import read_goal, read_program
from fairsearch.kept import KEPT, kept_answers
from fairsearch.searches import Search
from fairsearch.termtexts import show_term

# Of WORLD what has no unlike, number, word or absent.
PLAIN = tuple(relation for relation in WORLD if relation[0] != "member")


class PlainMaker(GoalMaker):
    """Goals that are same, both, either, fresh and call, by chance."""

    def goal(self, names, deep=4):
        words = ["same"] * 4 + ["both", "either"] * 2 + ["fresh"] if deep > 1 else ["same"] * 3 + ["both"]
        return self.made(self.rng.choice(words + ["call"] * 3), names, deep)

    def open_term(self, names, deep=2):
        return super().open_term(names, deep)


def plain_question(seed):
    names = {"p": ("x", "y"), "q": ("x",), "r": ()}
    stub = tuple((name, names[name], ("both", ())) for name in sorted(names))
    program = tuple((name, names[name], PlainMaker(f"{seed}{name}", stub).goal(names[name])) for name in sorted(names))
    return program, ("x", "y"), PlainMaker(seed, program).goal(("x", "y"), 3)


def texts(answers):
    return [" ".join(show_term(term) for term in terms) for terms in answers]


def told(names, goal, program=PLAIN, **more):
    program = read_program(program) if isinstance(program, str) else program
    goal = read_goal(goal) if isinstance(goal, str) else goal
    assert is_program(program) and is_goal(program, tuple(names.split()), goal)
    return texts(kept_answers(program, tuple(names.split()), goal, **more))


class Answers(unittest.TestCase):
    def test_kept_is_told(self):
        self.assertEqual(KEPT, 60)

    def test_without_calls(self):
        for names, goal, answers in (
            ("", "both 0", [""]), ("", "either 0", []), ("x", "both 0", ["?0"]), ("x", "same ?x 1", ["1"]),
            ("x", "both 2 same ?x 1 same ?x 2", []), ("x", "same ?x (?x)", []), ("x y", "same ?x ?y", ["?0 ?0"]),
            ("x y", "either 3 same ?y 1 same ?x 1 same ?y 1", ["1 ?0", "?0 1"]),
            ("x y", "fresh 2 a x both 2 same ?x 1 same ?y (?a . ?x)", ["?0 (?1 . 1)"]),
            ("x", "either 4 same ?x 10 same ?x 9 same ?x (1) same ?x -1", ["(1)", "-1", "10", "9"]),
        ):
            with self.subTest(goal):
                self.assertEqual(told(names, goal), answers)
                self.assertEqual(told(names, goal, most=0), answers)

    def test_kinds_of_values(self):
        self.assertEqual(kept_answers((), ("x", "y"), ("same", Y, (X, 1))), ((unknown(0), (unknown(0), 1)),))
        self.assertEqual(kept_answers((), ("x",), ("either", ())), ())

    def test_where_a_search_goes_on_without_end(self):
        self.assertEqual(told("x", "call loop 1 ?x"), [])
        self.assertEqual(told("x", "call upward 1 ?x"), [])
        self.assertEqual(told("x", "either 2 call loop 1 ?x same ?x 1"), ["1"])
        self.assertEqual(told("x", "call walk 2 a ?x"), ["a", "b", "c", "d"])
        self.assertEqual(told("x", "call walk 2 ?x a"), ["a", "b", "c"])
        self.assertEqual(told("x", "call walk 2 d ?x"), [])
        pairs = [f"{one} {other}" for one in "abc" for other in "abcd"]
        self.assertEqual(told("x y", "call walk 2 ?x ?y"), pairs)
        self.assertEqual(told("", "call walk 2 a a"), [""])
        left = "both 2 call path 2 ?x ?z call link 2 ?z ?y"
        program = (LINK, ("path", ("x", "y"), ("either", (("call", "link", (X, Y)), ("fresh", ("z",), read_goal(left))))))
        self.assertEqual(told("x y", "call path 2 ?x ?y", program), pairs)
        both = "both 2 call path 2 ?x ?z call path 2 ?z ?y"
        program = (LINK, ("path", ("x", "y"), ("either", (("call", "link", (X, Y)), ("fresh", ("z",), read_goal(both))))))
        self.assertEqual(told("x y", "call path 2 ?x ?y", program, most=300), pairs)
        self.assertEqual(told("x", "call path 2 b ?x", program, most=300), ["a", "b", "c", "d"])

    def test_lists(self):
        self.assertEqual(told("x y", "call append 3 ?x ?y (1 2 3)"), ["() (1 2 3)", "(1 2 3) ()", "(1 2) (3)", "(1) (2 3)"])
        self.assertEqual(told("x", "call append 3 (1 2) ?x (1 2 3)"), ["(3)"])
        self.assertEqual(told("x", "call append 3 (1 2) (3 . ?x) ?x"), [])
        self.assertEqual(told("x", "call count 1 (one one)"), ["?0"])
        self.assertEqual(told("x y", "call plus 3 ?x ?y (one one)"), ["() (one one)", "(one one) ()", "(one) (one)"])

    def test_goals_in_order_and_each_way_leads_on(self):
        goal = "both 3 call link 2 ?x ?y call link 2 ?y ?z same ?z a"
        self.assertEqual(told("x y z", goal), ["b c a"])
        goal = "both 2 either 2 same ?x a same ?x b call link 2 ?x ?y"
        self.assertEqual(told("x y", goal), ["a b", "b c"])

    def test_answers_with_unknowns_serve_each_like_call(self):
        program = "pair 2 x y = either 2 same ?x (?y) same ?x ?y"
        self.assertEqual(told("x y", "both 2 call pair 2 ?x ?y call pair 2 ?y ?x", program), ["?0 ?0"])
        self.assertEqual(told("x y z", "both 2 call pair 2 ?x ?y call pair 2 ?y ?z", program),
                         ["((?0)) (?0) ?0", "(?0) (?0) ?0", "(?0) ?0 ?0", "?0 ?0 ?0"])
        program = "free 2 x y = fresh 1 z same ?x (?z)"
        self.assertEqual(told("x y", "both 2 call free 2 ?x ?y call free 2 ?y ?x", program), ["(?0) (?1)"])
        self.assertEqual(told("x", "call free 2 ?x ?x", program), ["(?0)"])

    def test_names_are_each_relations_own(self):
        program = "swap 2 x y = same (?x . ?y) (1 . 2)"
        self.assertEqual(told("x y", "call swap 2 ?y ?x", program), ["2 1"])
        program = "hide 2 x y = fresh 1 x both 2 same ?x 1 same ?y (?x)"
        self.assertEqual(told("x y", "call hide 2 ?x ?y", program), ["?0 (1)"])

    def test_just_what_a_search_tells(self):
        ended = 0
        for seed in range(1200):
            question = plain_question(seed)
            try:
                answers = kept_answers(*question, most=30)
            except TooMany:
                continue
            search = Search(*question)
            shown = {row[0] for path, row in search.take(300, limit=40)}
            self.assertLessEqual(shown, set(answers))
            if search.ended():
                ended += 1
                self.assertEqual(texts(answers), sorted(texts(shown)))
        self.assertTrue(ended > 500)

    def test_nothing_is_changed_and_the_same_again(self):
        before = copy.deepcopy(PLAIN)
        for _ in range(2):
            self.assertEqual(len(told("x y", "call walk 2 ?x ?y")), 12)
        self.assertEqual(PLAIN, before)


class Refusals(unittest.TestCase):
    LIMITS = [("unlike", X, 1), ("number", X), ("word", X), ("absent", 1, X)]

    def check(self, kind, program, goal):
        assert is_program(program) and is_goal(program, ("x",), goal)
        for most in (0, 60, 300):
            with self.assertRaises(NotPlain) as caught:
                kept_answers(program, ("x",), goal, most=most)
            self.assertEqual(caught.exception.kind, kind)

    def test_in_the_goal(self):
        for limit in self.LIMITS:
            for goal in (limit, ("both", (("same", X, 1), ("either", (limit,)))), ("fresh", ("x",), limit),
                         ("either", (("both", ()), ("fresh", ("a",), ("both", (("same", A, 1), limit)))))):
                self.check(limit[0], (), goal)

    def test_the_first_one(self):
        for first in self.LIMITS:
            for second in self.LIMITS:
                rest = (("own", ("x",), second),)
                self.check(first[0], (), ("both", (first, second)))
                self.check(first[0], (), ("either", (("fresh", ("a",), ("both", (("both", ()), first))), second)))
                self.check(first[0], rest, first)
                self.check(first[0], rest, ("both", (("call", "own", (X,)), first)))
                self.check(first[0], (("a", ("x",), first), ("b", ("x",), second)), ("call", "b", (X,)))
                self.check(first[0], (TRUE, ("wide", ("x",), ("either", (("both", (first,)), second)))), ("same", X, 1))

    def test_of_relations_that_are_never_called_and_ahead_of_too_many(self):
        endless = (COUNT, LOOP, ("never", ("x",), ("both", (("number", X),))))
        self.check("number", endless, ("call", "count", (X,)))
        self.check("number", endless, ("same", X, 1))
        self.check("number", endless, ("either", ()))

    def test_too_many(self):
        for names, goal, counted in (
            ("x", "call loop 1 ?x", 1), ("x", "call upward 1 ?x", 1), ("x", "call link 2 a ?x", 2),
            ("x y", "call link 2 ?x ?y", 5), ("x y", "both 2 call link 2 ?x ?y call link 2 ?x ?y", 13),
            ("x y", "either 2 call link 2 ?x ?y call link 2 ?y ?x", 5), ("x", "both 2 call link 2 d ?x call link 2 ?x d", 1),
            ("x y", "call append 3 ?x ?y (1 2 3)", 14), ("x", "call walk 2 a ?x", 24), ("x y", "call walk 2 ?x ?y", 42),
            ("x", "both 2 call loop 1 ?x call count 1 ?x", 1), ("", "call count 1 (one one)", 6),
        ):
            with self.subTest(goal):
                answers = told(names, goal, most=counted)
                for most in (counted + 1, 300):
                    self.assertEqual(told(names, goal, most=most), answers)
                for most in {0, 1, counted // 2, counted - 1} - {counted}:
                    with self.assertRaises(TooMany) as caught:
                        told(names, goal, most=most)
                    self.assertEqual(caught.exception.limit, most)

    def test_without_end(self):
        for goal in ("call count 1 ?x", "fresh 1 y call append 3 ?x (1) ?y", "fresh 2 y z call plus 3 ?x ?y ?z"):
            for most in (None, 60, 200):
                with self.assertRaises(TooMany) as caught:
                    told("x", goal, **({} if most is None else {"most": most}))
                self.assertEqual(caught.exception.limit, 60 if most is None else most)

    def test_terms_that_become_great(self):
        for text in ("up 1 x = call up 1 (?x . ?x)", "up 1 x = call up 1 ((?x))", "up 1 x = call up 1 (1 . ?x)",
                     "up 1 x = either 2 both 0 call up 1 (?x . ?x)", "up 1 x = both 2 call up 1 (?x ?x ?x) call up 1 ?x"):
            for most in (0, 1, 60, 300):
                with self.assertRaises(TooMany):
                    told("x", "call up 1 ?x", text, most=most)

    def test_the_most_goes_by_its_name(self):
        with self.assertRaises(TypeError):
            kept_answers((), (), ("both", ()), 5)

    def test_left_out_it_is_sixty(self):
        # One call and as many answers as there are ways.
        def ways(many):
            parts = tuple(("either", tuple(("same", X, (row, at)) for at in range(30))) for row in range(many // 30))
            return (("many", ("x",), ("either", (*parts, *[("same", X, at) for at in range(many % 30)]))),)
        self.assertEqual(len(told("x", "call many 1 ?x", ways(59))), 59)
        with self.assertRaises(TooMany) as caught:
            told("x", "call many 1 ?x", ways(60))
        self.assertEqual(caught.exception.limit, 60)
        self.assertEqual(len(told("x y", "both 2 call many 1 ?x call many 1 ?y", ways(20), most=21)), 400)


class ByTheWords(unittest.TestCase):
    def test_by_chance(self):
        told = {"ok": 0, "many": 0, "refused": 0}
        for seed in range(1500):
            question = plain_question(seed)
            plain = PlainKept(question[0], 25)
            try:
                answers = plain.answers(*question[1:])
            except TooMuch:
                told["refused"] += 1
                with self.assertRaises(TooMany):
                    kept_answers(*question, most=25)
                continue
            counted = plain.counted()
            got = kept_answers(*question, most=counted)
            self.assertEqual(texts(got), sorted(texts(answers)))
            told["many" if counted > 3 else "ok"] += 1
            if counted:
                with self.assertRaises(TooMany) as caught:
                    kept_answers(*question, most=counted - 1)
                self.assertEqual(caught.exception.limit, counted - 1)
        self.assertTrue(min(told.values()) > 30, told)

    def test_programs(self):
        for names, goal in (
            (("x", "y"), ("call", "walk", (X, Y))), (("x",), ("call", "walk", ("b", X))),
            (("x", "y"), ("call", "append", (X, Y, listed(1, "a", 2, 1)))),
            (("x", "y", "z"), ("both", (("call", "append", (X, Y, listed(1, 2))), ("call", "append", (Y, X, Z))))),
            (("x", "y"), ("fresh", ("z",), ("both", (("call", "link", (X, Z)), ("call", "walk", (Z, Y)))))),
            (("x", "y"), ("both", (("call", "plus", (X, Y, listed("one", "one", "one"))), ("call", "count", (X,))))),
        ):
            plain = PlainKept(PLAIN, 300)
            answers = plain.answers(names, goal)
            got = kept_answers(PLAIN, names, goal, most=plain.counted())
            self.assertEqual(texts(got), sorted(texts(answers)))
            with self.assertRaises(TooMany):
                kept_answers(PLAIN, names, goal, most=plain.counted() - 1)


if __name__ == "__main__":
    unittest.main()
