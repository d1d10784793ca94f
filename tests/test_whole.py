"""What is promised over the whole program: traces, answers, ends, kept calls, findings, Shelves agree."""

import copy
import unittest
from itertools import product

from programs import A, D, ENDING, ENDLESS, LINK, WALK, WORLD, X, Y, random_question
from samples import listed

from fairsearch.desk import Desk
from fairsearch.endchecks import end_holds
from fairsearch.ends import end_paper
from fairsearch.errors import Missing, NotPlain, TooMany
from fairsearch.findings import finding_holds
from fairsearch.goaltexts import read_program, show_goal, show_relation
from fairsearch.kept import kept_answers
from fairsearch.limits import follows
from fairsearch.searches import Search
from fairsearch.shelves import Shelf
from fairsearch.showing import covered, covers, show_answer, with_limits
from fairsearch.stores import Store
from fairsearch.terms import is_ground
from fairsearch.traces import path_of, trace_holds
from fairsearch.tracing import trace_along

POOL = ["a", "b", "c", "d", 1, (), listed("one"), listed("one", "one"), listed(1), listed(1, 2), listed("a", "b"), ("one", 5)]

QUESTIONS = [(WORLD, names, goal) for names, goal in [*ENDLESS, *ENDING]]


def parts_of(term):
    yield term
    if isinstance(term, tuple) and term:
        yield from parts_of(term[0])
        yield from parts_of(term[1])


def put(term, values):
    if isinstance(term, tuple) and len(term) == 2:
        return values[term[1]] if term[0] == "?" else (put(term[0], values), put(term[1], values))
    return term


def is_so(goal, values):
    word, *terms = goal
    if word == "absent":
        return terms[0] not in list(parts_of(put(terms[1], values)))
    terms = [put(term, values) for term in terms]
    if word in ("number", "word"):
        return type(terms[0]) is (int if word == "number" else str)
    return (terms[0] == terms[1]) == (word == "same")


def made(relations, goal, values, most, pool):
    """(trace, how many numbers of the path are left)."""
    word = goal[0]
    if word == "both":
        yield from made_each(relations, goal[1], values, most, pool)
    elif word == "either" and most > 0:
        for at, part in enumerate(goal[1]):
            for trace, left in made(relations, part, values, most - 1, pool):
                yield (at, trace), left
    elif word == "fresh":
        for terms in product(pool, repeat=len(goal[1])):
            for trace, left in made(relations, goal[2], {**values, **dict(zip(goal[1], terms))}, most, pool):
                yield (terms, trace), left
    elif word == "call" and most > 0:
        names, inner = relations[goal[1]]
        known = dict(zip(names, [put(term, values) for term in goal[2]]))
        for trace, left in made(relations, inner, known, most - 1, pool):
            yield (trace,), left
    elif word not in ("either", "call") and is_so(goal, values):
        yield (), most


def made_each(relations, goals, values, most, pool):
    if not goals:
        yield (), most
        return
    for trace, left in made(relations, goals[0], values, most, pool):
        for rest, last in made_each(relations, goals[1:], values, left, pool):
            yield (trace, *rest), last


class Traces(unittest.TestCase):
    def test_for_whatever_trace_an_answer_comes_along_its_path_in_its_round(self):
        """All traces of small values, made without any Search."""
        asked = [
            (("x",), ("call", "count", (X,)), 5), (("x",), ("call", "walk", ("a", X)), 8), (("x", "y"), ("call", "walk", (X, Y)), 4),
            (("x", "y"), ("call", "link", (X, Y)), 2), (("x", "y"), ("call", "member", (X, Y)), 5), (("x",), ("call", "loop", (X,)), 4),
            (("x", "y"), ("both", (("call", "link", (X, Y)), ("unlike", Y, "c"))), 2), (("x",), ("call", "upward", (X,)), 4),
            (("x", "y"), ("fresh", ("a",), ("either", (("same", A, X), ("both", (("unlike", A, Y), ("word", A)))))), 1),
            (("x", "y"), ("fresh", ("a", "d"), ("both", (("same", (A, D), X), ("absent", "b", D), ("number", Y)))), 0),
        ]
        seen = 0
        for names, goal, most in asked:
            pool = POOL if len(names) == 1 else POOL[:3] + POOL[4:6] + POOL[8:11]
            answers = {}
            search = Search(WORLD, names, goal)
            while not search.ended() and search.rounds() <= most + 1 and search.turns() < 300:
                for path, shown in search.take(1, limit=1):
                    answers[path] = (shown, search.rounds())
            for values in product(pool, repeat=len(names)):
                known = dict(zip(names, values))
                # Small lists alone: their parts are the only terms that fresh names are tried with.
                for trace, left in self.some(goal, known, most):
                    self.assertIs(trace_holds(WORLD, names, goal, values, trace), True)
                    path = path_of(WORLD, goal, trace)
                    shown, rounds = answers[path]
                    self.assertIs(covers(shown, values), True, (goal, values, path))
                    self.assertEqual(rounds, len(path) + 1)
                    seen += 1
        self.assertTrue(seen > 200, seen)

    def some(self, goal, known, most):
        pool = list({repr(part): part for value in [*known.values(), "b", "c"] for part in parts_of(value)}.values())
        relations = {name: (names, inner) for name, names, inner in WORLD}
        return made(relations, goal, known, most, pool)

    def test_whatever_ground_terms_an_answer_covers_have_a_trace_along_its_path(self):
        told = {True: 0, False: 0}
        for program, names, goal in QUESTIONS:
            for path, shown in Search(program, names, goal).take(8, limit=80):
                tries = [covered(shown), *[tuple(POOL[(at * 5 + step) % len(POOL)] for at in range(len(names))) for step in range(9)]]
                for values in tries:
                    right = covers(shown, values)
                    trace = trace_along(program, names, goal, path, values)
                    self.assertIs(trace is not None, right)
                    told[right] += 1
                    if right:
                        self.assertIs(trace_holds(program, names, goal, values, trace), True)
                        self.assertEqual(path_of(program, goal, trace), path)
                        self.assertIs(finding_holds(("trace", program, names, goal, values, trace)), True)
        self.assertTrue(min(told.values()) > 100, told)


class Answers(unittest.TestCase):
    def questions(self):
        yield from QUESTIONS
        for seed in range(300):
            yield random_question(seed)

    def test_no_two_have_one_path_and_they_come_by_rounds_then_by_paths(self):
        for program, names, goal in self.questions():
            answers = Search(program, names, goal).take(300, limit=60)
            paths = [(len(path), path) for path, shown in answers]
            self.assertEqual(paths, sorted(set(paths)))

    def test_rows_that_are_shown_are_least(self):
        many = 0
        for program, names, goal in self.questions():
            for path, (terms, rows, kinds, absents) in Search(program, names, goal).take(20, limit=40):
                for row in rows:
                    for other in rows:
                        many += 1
                        self.assertIs(follows(row, other), row == other)
                    # Each bars something that all others together let be.
                    others = (terms, tuple(other for other in rows if other != row), kinds, absents)
                    store = Store()
                    for n, term in row:
                        store = store.same(("?", n), term)
                    values = with_limits(store, others).world(terms)
                    self.assertIs(covers(others, values), True)
                    self.assertIs(covers((terms, rows, kinds, absents), values), False)
        self.assertTrue(many > 50, many)

    def test_answers_with_many_rows(self):
        """Lists of unlike things, each with rows of its own: covered, traced and found along as others are."""
        program = read_program(
            "apart 1 x = either 2 same ?x () fresh 2 a d both 7 same ?x (?a . ?d) unlike ?a 1 unlike ?a ?d "
            "unlike (?a . ?d) (3 4) unlike (?a ?d) (?d ?a) absent 7 ?d call apart 1 ?d")
        names, goal = ("x",), ("call", "apart", (X,))
        path, shown = Search(program, names, goal).take(40)[-1]
        self.assertTrue(len(shown[1]) > 75, len(shown[1]))
        values = covered(shown)
        trace = trace_along(program, names, goal, path, values)
        self.assertIs(covers(shown, values), True)
        self.assertIs(finding_holds(("answer", program, names, goal, path, shown)), True)
        self.assertIs(finding_holds(("trace", program, names, goal, values, trace)), True)
        self.assertIs(finding_holds(("answer", program, names, goal, path, (shown[0], shown[1][1:], *shown[2:]))), False)

    def test_each_is_a_finding(self):
        for program, names, goal in self.questions():
            answers = Search(program, names, goal).take(6, limit=40)
            for path, shown in answers:
                self.assertIs(finding_holds(("answer", program, names, goal, path, shown)), True)
                self.assertTrue(all(is_ground(value) for value in covered(shown)))
            for (path, shown), (other, second) in zip(answers, answers[1:]):
                self.assertIs(finding_holds(("answer", program, names, goal, path, second)), shown == second)


class Ends(unittest.TestCase):
    def test_just_the_answers_of_a_paper_come(self):
        ended = 0
        for program, names, goal in [*QUESTIONS, *[random_question(seed) for seed in range(300)]]:
            search = Search(program, names, goal)
            answers = search.take(300, limit=60)
            if not search.ended():
                with self.assertRaises(TooMany):
                    end_paper(program, names, goal, limit=60)
                continue
            ended += 1
            paper = end_paper(program, names, goal, limit=search.turns())
            self.assertIs(end_holds(program, names, goal, paper), True)
            self.assertIs(finding_holds(("end", program, names, goal, paper)), True)
            self.assertEqual([path for path, word in paper if word == "answer"], sorted(path for path, shown in answers))
            for path, word in paper:
                shown = dict(answers).get(path)
                self.assertIs(shown is not None, word == "answer")
                values = covered(shown) if shown else tuple(1 for name in names)
                self.assertIs(trace_along(program, names, goal, path, values) is not None, word == "answer")
        self.assertTrue(ended > 100, ended)


class Kept(unittest.TestCase):
    def test_the_terms_of_all_answers_each_once(self):
        plain = tuple(relation for relation in WORLD if relation[0] != "member")
        told = {"ended": 0, "endless": 0, "refused": 0}
        for program, names, goal in QUESTIONS:
            if "member" in repr(goal):
                with self.assertRaises(NotPlain):
                    kept_answers(WORLD, names, goal)
                continue
            search = Search(plain, names, goal)
            terms = {shown[0] for path, shown in search.take(300, limit=300)}
            try:
                answers = kept_answers(plain, names, goal, most=300)
            except (TooMany, NotPlain):
                told["refused"] += 1
                continue
            self.assertEqual(len(set(answers)), len(answers))
            self.assertEqual(set(answers), terms)
            texts = [show_answer((row, (), (), ())) for row in answers]
            self.assertEqual(texts, sorted(texts))
            told["ended" if search.ended() else "endless"] += 1
        self.assertTrue(min(told.values()) > 2, told)

    def test_even_where_a_search_never_ends(self):
        links = (LINK, WALK)
        goal = ("both", (("call", "walk", (X, Y)), ("call", "walk", (Y, X))))
        answers = kept_answers(links, ("x", "y"), goal, most=300)
        self.assertEqual(answers, tuple(product("abc", repeat=2)))
        search = Search(links, ("x", "y"), goal)
        self.assertLessEqual({shown[0] for path, shown in search.take(300, limit=300)}, set(answers))
        self.assertIs(search.ended(), False)


class Shelves(unittest.TestCase):
    def test_open_again_whatever_was_refused(self):
        shelf = Shelf(WORLD)
        for at, (program, names, goal) in enumerate(QUESTIONS[:6]):
            shelf.do(("begin", "abcdef"[at], names, goal))
        searches = [Search(*question) for question in QUESTIONS[:6]]
        for step in range(4):
            with self.assertRaises(Missing):
                shelf.do(("all", tuple([("go", title, step + 1) for title in "abcdef"] + [("go", "none", 1)])))
            self.assertEqual(shelf.inside(), 0)
            for title, search in zip("abcdef", searches):
                self.assertEqual(shelf.do(("go", title, 1)), search.take())
                self.assertEqual((shelf.turns(title), shelf.open_ones(title)), (search.turns(), len(search)))

    def test_a_desk_writes_what_a_search_tells(self):
        for program, names, goal in QUESTIONS:
            desk = Desk()
            desk.say("put " + " / ".join(show_relation(relation) for relation in program))
            desk.say(" ".join(["begin", "t", str(len(names)), *names, "=", show_goal(goal)]))
            search = Search(program, names, goal)
            texts = [show_answer(shown) for path, shown in search.take(7)]
            self.assertEqual(desk.say("go t 7\nturns t"), f"{' / '.join(texts) if texts else '()'}\n{search.turns()}")

    def test_nothing_is_shared_or_changed(self):
        before = copy.deepcopy((WORLD, ENDLESS, ENDING))
        for program, names, goal in QUESTIONS:
            alone = Search(program, names, goal).take(5, limit=40)
            search, shelf, desk = Search(program, names, goal), Shelf(program), Desk()
            shelf.do(("begin", "t", names, goal))
            desk.say("put " + " / ".join(show_relation(relation) for relation in program))
            told = []
            for _ in range(40):
                told += search.take(1, limit=1)
                shelf.do(("go", "t", 0))
                trace_along(program, names, goal, (0, 0), tuple(1 for name in names))
            self.assertEqual(tuple(told[:5]), alone)
        self.assertEqual((WORLD, ENDLESS, ENDING), before)


if __name__ == "__main__":
    unittest.main()
