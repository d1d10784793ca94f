import copy
import unittest
from itertools import product
from random import Random

from plainsearch import plain_events
from programs import ENDING, ENDLESS, WORLD, X, Y, random_question
from samples import NO_TERMS, TERMS, listed
from spoiling import ANYTHING, spoilt, spoilt_twice

from fairsearch.endchecks import end_holds
from fairsearch.ends import end_paper
from fairsearch.errors import TooMany
from fairsearch.goaltexts import read_goal, read_program
from fairsearch.searches import Search


def plain_paper(program, names, goal, most):
    """The paper of the end, and how many turns it needs; None where so many aren't enough."""
    events = plain_events(program, names, goal, most)
    if not events or events[-1][3]:
        return None, len(events)
    return tuple(sorted((path, word) for path, word, *rest in events if word != "parted")), len(events)


def strictly(thing, paper):
    """Whether the thing is the paper, kinds and all."""
    return repr(thing) == repr(paper)


class Papers(unittest.TestCase):
    TOLD = [
        ("", "both 0", (((), "answer"),)),
        ("", "either 0", (((), "over"),)),
        ("x", "same ?x 1", (((), "answer"),)),
        ("x", "same ?x (?x)", (((), "over"),)),
        ("x", "either 2 same ?x 1 same 1 2", (((0,), "answer"), ((1,), "over"))),
        ("x", "either 3 either 2 same ?x 1 either 0 both 0 either 1 number ?x",
         (((0, 0), "answer"), ((0, 1), "over"), ((1,), "answer"), ((2, 0), "answer"))),
        ("x", "both 2 call nil 1 ?x either 2 unlike ?x () number 1", (((0, 0), "over"), ((0, 1), "answer"))),
    ]

    def test_each_branch_that_ends(self):
        program = read_program("nil 1 x = same ?x ()")
        for names, goal, paper in self.TOLD:
            with self.subTest(goal):
                question = (program, tuple(names.split()), read_goal(goal))
                self.assertEqual(end_paper(*question), paper)
                self.assertIs(end_holds(*question, paper), True)

    def test_by_the_words(self):
        for names, goal in ENDING:
            paper, turns = plain_paper(WORLD, names, goal, 200)
            self.assertEqual(end_paper(WORLD, names, goal), paper)
            self.assertIs(end_holds(WORLD, names, goal, paper), True)
        ended = 0
        for seed in range(1500):
            question = random_question(seed)
            paper, turns = plain_paper(*question, 40)
            if paper is not None:
                ended += len(paper) > 2
                self.assertEqual(end_paper(*question, limit=40), paper)
                self.assertIs(end_holds(*question, paper), True)
        self.assertTrue(ended > 50, ended)

    def test_limits(self):
        for names, goal in ENDING:
            paper, turns = plain_paper(WORLD, names, goal, 200)
            for limit in (turns, turns + 1, 200, 300):
                self.assertEqual(end_paper(WORLD, names, goal, limit=limit), paper)
            for limit in {0, 1, turns - 1, turns // 2} - {turns}:
                with self.assertRaises(TooMany) as caught:
                    end_paper(WORLD, names, goal, limit=limit)
                self.assertEqual(caught.exception.limit, limit)

    def test_limit_left_out(self):
        for names, goal in ENDLESS:
            with self.assertRaises(TooMany) as caught:
                end_paper(WORLD, names, goal)
            self.assertEqual(caught.exception.limit, 200)
        # One turn for the goal, one for each part: just 200, and one more.
        goal = ("both", (("either", (("both", ()),) * 14), ("either", (("both", ()),) * 13)))
        self.assertEqual(len(end_paper((), (), goal, limit=1 + 14 + 14 * 13)), 182)
        with self.assertRaises(TooMany):
            end_paper((), (), goal, limit=14 + 14 * 13)
        wide = ("either", (*[("either", (("both", ()),) * 36)] * 5, *[("both", ())] * 14))
        self.assertEqual(Search((), (), wide).take(300, limit=300)[-1][0], (4, 35))
        self.assertEqual(len(end_paper((), (), wide)), 194)
        with self.assertRaises(TooMany) as caught:
            end_paper((), (), (wide[0], (*wide[1], ("both", ()))))
        self.assertEqual(caught.exception.limit, 200)

    def test_the_limit_goes_by_its_name(self):
        with self.assertRaises(TypeError):
            end_paper((), (), ("both", ()), 5)

    def test_just_its_answers_come(self):
        for names, goal in ENDING:
            answers = [path for path, shown in Search(WORLD, names, goal).take(300)]
            paper = end_paper(WORLD, names, goal)
            self.assertEqual(sorted(answers), [path for path, word in paper if word == "answer"])


class Checks(unittest.TestCase):
    def test_where_a_search_would_be_long(self):
        goal = ("both", (("either", (("same", X, 1), ("same", X, 2), ("either", ()))),) * 5)
        paper = []
        for path in product(range(3), repeat=5):
            cut = next((at for at in range(5) if path[at] == 2 or path[at] != path[0]), None)
            paper.append((path, "answer") if cut is None else (path[:cut + 1], "over"))
        paper = tuple(sorted(set(paper)))
        self.assertIs(end_holds((), ("x",), goal, paper), True)
        # 625 branches that end.
        goal = ("both", (("either", (("both", ()),) * 5),) * 4)
        paper = tuple((path, "answer") for path in product(range(5), repeat=4))
        self.assertIs(end_holds((), ("x",), goal, paper), True)
        self.assertIs(end_holds((), ("x",), goal, paper[:-1]), False)
        self.assertIs(end_holds((), ("x",), goal, paper[:300] + paper[301:]), False)
        self.assertIs(end_holds((), ("x",), goal, (*paper[:-1], ((4, 4, 4, 4), "over"))), False)

    def test_long_paths(self):
        down = read_program("down 1 x = either 2 same ?x () fresh 1 d both 2 same ?x (one . ?d) call down 1 ?d")
        for many in (20, 200):
            goal = ("call", "down", (listed(*["one"] * many),))
            paper = tuple(sorted([((0, *(1, 0) * at, 0), "answer" if at == many else "over") for at in range(many + 1)]
                                 + [((0, *(1, 0) * many, 1), "over")]))
            self.assertIs(end_holds(down, ("x",), goal, paper), True)
            self.assertIs(end_holds(down, ("x",), goal, paper[:-1]), False)
            self.assertIs(end_holds(down, ("x",), goal, (*paper[:-2], *paper[:-3:-1])), False)

    def test_along_what_never_ends(self):
        texts = ("from 1 x = call from 1 ?x", "from 1 x = fresh 1 d both 2 same ?x (one . ?d) call from 1 ?d",
                 "from 1 x = call from 1 (?x . ?x)", "from 1 x = fresh 1 d both 2 same ?d (?x . ?x) call from 1 ?d",
                 "from 1 x = fresh 2 d e both 4 same ?x (?d . ?d) unlike ?x ?e absent a ?x call from 1 ?d")
        for text in texts:
            program = read_program(text)
            for many in (0, 1, 50, 400):
                for word in ("over", "answer"):
                    self.assertIs(end_holds(program, ("x",), ("call", "from", (X,)), (((0,) * many, word),)), False)

    def questions(self):
        for names, goal in ENDING:
            yield (WORLD, names, goal), end_paper(WORLD, names, goal)
        for seed in range(400):
            question = random_question(seed)
            paper, turns = plain_paper(*question, 30)
            if paper is not None and len(paper) > 1:
                yield question, paper

    def test_spoilt_at_any_place(self):
        rng = Random(17)
        for question, paper in self.questions():
            things = [*spoilt(paper), *spoilt_twice(paper, rng, 40)] if len(paper) < 9 else spoilt_twice(paper, rng, 200)
            for thing in things:
                self.assertIs(end_holds(*question, thing), strictly(thing, paper), (question, thing))

    def test_rows_left_out_twice_exchanged_and_otherwise(self):
        for question, paper in self.questions():
            for at, (path, word) in enumerate(paper):
                other = "over" if word == "answer" else "answer"
                paths = [path[:-1], (*path, 0), (*path, 1), (*path[:-1], (path or (0,))[-1] + 1), (*path[:-1], LAST)]
                rows = [(path, other), (path, word + " "), (path, "parted"), (path, None), (path, True), (list(path), word),
                        [path, word], (path,), (path, word, word), (word, path), (path, (word,)),
                        *[(one, word) for one in paths if one != path], (tuple(bool(n) for n in path) or (False,), word)]
                for row in rows:
                    thing = (*paper[:at], row, *paper[at + 1:])
                    self.assertIs(end_holds(*question, thing), False, thing)
                    if isinstance(row, tuple) and len(row) == 2 and isinstance(row[0], tuple) and isinstance(row[1], str):
                        self.assertIs(end_holds(*question, tuple(sorted(thing))), False, thing)
                self.assertIs(end_holds(*question, paper[:at] + paper[at + 1:]), False)
                self.assertIs(end_holds(*question, paper[:at + 1] + paper[at:]), False)
                self.assertIs(end_holds(*question, tuple(sorted((*paper, ((*path, 0), word))))), False)
                if at:
                    turned = (*paper[:at - 1], paper[at], paper[at - 1], *paper[at + 1:])
                    self.assertIs(end_holds(*question, turned), False)
            self.assertIs(end_holds(*question, list(paper)), False)

    def test_of_another_question(self):
        every = list(self.questions())[:60]
        for question, paper in every:
            for other, told in every:
                self.assertIs(end_holds(*question, told), told == paper)

    def test_of_anything(self):
        things = [*ANYTHING, *TERMS, *NO_TERMS, (), (((), "answer"),), (((), "over"),), ((),), ((((),), "over"),)]
        every = list(self.questions())[:30]
        for thing in things:
            before = copy.deepcopy(thing)
            for question, paper in every:
                self.assertIs(end_holds(*question, thing), strictly(thing, paper))
            for names, goal in ENDLESS:
                self.assertIs(end_holds(WORLD, names, goal, thing), False)
            self.assertEqual(repr(thing), repr(before))

    def test_where_not_all_end(self):
        for names, goal in ENDLESS:
            events = plain_events(WORLD, names, goal, 40)
            ends = tuple(sorted((path, word) for path, word, *rest in events if word != "parted"))
            for at in range(len(ends) + 1):
                self.assertIs(end_holds(WORLD, names, goal, ends[:at]), False)
            for path, word, *rest in events:
                self.assertIs(end_holds(WORLD, names, goal, tuple(sorted({*ends, (path, "over")}))), False)

    def test_the_same_again_and_nothing_changed(self):
        before = copy.deepcopy((WORLD, ENDING))
        for names, goal in ENDING:
            paper = end_paper(WORLD, names, goal)
            self.assertEqual(end_paper(WORLD, names, goal), paper)
            self.assertIs(end_holds(WORLD, names, goal, paper), end_holds(WORLD, names, goal, copy.deepcopy(paper)))
        self.assertEqual((WORLD, ENDING), before)
        self.assertEqual(end_paper((), ("y",), ("same", Y, 1)), (((), "answer"),))


LAST = 10 ** 39


if __name__ == "__main__":
    unittest.main()
