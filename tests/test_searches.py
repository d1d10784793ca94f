import copy
import unittest
from random import Random

from oracles import all_tables
from plainsearch import plain_events
from programs import A, ENDING, ENDLESS, PROGRAM, WORLD, X, Y, Z, random_question
from samples import LONG, grown, listed, unknown

from fairsearch.fillings import is_filling
from fairsearch.goals import is_goal, is_program
from fairsearch.goaltexts import read_goal, read_program
from fairsearch.searches import TURNS, Search
from fairsearch.showing import covered, covers, show_answer
from fairsearch.terms import is_ground, renamed, unknowns_in
from fairsearch.termtexts import show_filling


def asked(names, goal, program=()):
    """A Search by texts: names parted by blanks, and a goal, either a text or none."""
    program = read_program(program) if isinstance(program, str) else program
    goal = read_goal(goal) if isinstance(goal, str) else goal
    names = tuple(names.split())
    assert is_program(program) and is_goal(program, names, goal), (program, goal)
    return Search(program, names, goal)


def told(search, many=300, limit=300):
    """The answers as they are written, with their paths."""
    return [(path, show_answer(shown)) for path, shown in search.take(many, limit=limit)]


def state(search):
    return (search.turns(), search.rounds(), len(search), search.ended())


class Answers(unittest.TestCase):
    def test_path_and_shown(self):
        self.assertEqual(asked("x", "same ?x 1").take(), (((), ((1,), (), (), ())),))
        self.assertEqual(asked("x y", "either 2 same ?x 1 unlike ?y ?x").take(9), (
            ((0,), ((1, unknown(0)), (), (), ())),
            ((1,), ((unknown(0), unknown(1)), (((1, unknown(0)),),), (), ())),
        ))

    def test_a_both_of_nothing_is_an_answer(self):
        self.assertEqual(asked("", "both 0").take(), (((), ((), (), (), ())),))
        self.assertEqual(asked("x", "both 0").take(), (((), ((unknown(0),), (), (), ())),))

    def test_an_either_of_nothing_is_over(self):
        search = asked("x", "either 0")
        self.assertEqual(search.take(), ())
        self.assertEqual(state(search), (1, 1, 0, True))
        search = asked("x", "both 2 same ?x 1 either 2 either 0 both 0")
        self.assertEqual(told(search), [((1,), "1")])
        self.assertEqual(state(search), (3, 2, 0, True))

    def test_by_rounds_then_by_paths(self):
        search = asked("x", "either 4 either 2 same ?x 1 same ?x 2 same ?x 3 either 1 either 1 same ?x 4 either 1 same ?x 5")
        self.assertEqual(told(search), [((1,), "3"), ((0, 0), "1"), ((0, 1), "2"), ((3, 0), "5"), ((2, 0, 0), "4")])
        self.assertEqual(state(search), (10, 4, 0, True))

    def test_an_either_of_one_is_parted_too(self):
        search = asked("x", "either 1 either 1 same ?x 1")
        self.assertEqual(told(search), [((0, 0), "1")])
        self.assertEqual(search.turns(), 3)

    def test_a_call_is_parted_into_one(self):
        search = asked("x y", "both 2 call one 1 ?x call one 1 (?y)", "one 1 z = same ?z (1)")
        self.assertEqual(told(search), [((0, 0), "(1) 1")])
        self.assertEqual(state(search), (3, 3, 0, True))

    def test_goals_of_a_both_in_order(self):
        search = asked("x y", "both 2 either 2 same ?x 1 same ?x 2 either 2 same ?y 1 unlike ?x 1")
        self.assertEqual(told(search), [((0, 0), "1 1"), ((1, 0), "2 1"), ((1, 1), "2 ?0")])
        self.assertEqual(search.turns(), 7)

    def test_what_is_over_at_once_parts_into_nothing(self):
        search = asked("x", "both 3 same ?x 1 same ?x 2 either 3 both 0 both 0 both 0")
        self.assertEqual(search.take(), ())
        self.assertEqual(state(search), (1, 1, 0, True))

    def test_branches_that_end_over(self):
        for goal in ("same (1) (2)", "same ?x (1 . ?x)", "unlike (?x) (?x)", "both 2 number ?x word ?x", "number (?x)",
                     "word ()", "absent a (1 a)", "both 2 absent 1 ?x same ?x (2 1)", "both 2 unlike ?x 1 same ?x 1",
                     "both 3 same ?x (?y . 1) same ?y (?z) same ?z ?x", "both 2 same ?x (?y) number ?x",
                     "both 4 unlike (?x . ?y) (?y . 1) same ?x ?z same ?z 1 same ?y 1"):
            for added in ("{}", "both 2 either 1 both 0 {}", "fresh 1 a both 2 {} same ?x ?a"):
                search = asked("x y z", added.format(goal))
                self.assertEqual(search.take(), (), goal)
                self.assertIs(search.ended(), True)

    def test_handed_in_terms(self):
        self.assertEqual(asked("x", ("same", X, (LONG, -LONG))).take(), (((), (((LONG, -LONG),), (), (), ())),))
        great = grown(300, 30, lambda at: at)
        self.assertEqual(asked("x", ("same", X, great)).take(), (((), ((great,), (), (), ())),))


class Names(unittest.TestCase):
    def test_a_fresh_name_hides_the_one_around_it(self):
        self.assertEqual(told(asked("x", "fresh 1 x same ?x 1")), [((), "?0")])
        self.assertEqual(told(asked("x", "both 2 fresh 1 x same ?x 1 same ?x 2")), [((), "2")])
        self.assertEqual(told(asked("x y", "fresh 1 x both 2 same ?x 1 fresh 1 x same ?x ?y")), [((), "?0 ?1")])
        self.assertEqual(told(asked("x y", "fresh 2 y z both 3 same ?y (?z) same ?x ?y fresh 1 y same ?y 1")),
                         [((), "(?0) ?1")])
        self.assertEqual(told(asked("x y", "both 2 fresh 1 y same (?x . ?y) (?y . 1) same ?x ?y")), [((), "1 1")])

    def test_in_calls_names_are_the_relations_own(self):
        program = "swap 2 x y = same (?x . ?y) (1 . 2)"
        self.assertEqual(told(asked("x y", "call swap 2 ?y ?x", program)), [((0,), "2 1")])
        program = "p 1 y = fresh 1 x same ?x ?y\nq 1 x = fresh 1 y both 2 same ?y 1 call p 1 (?x . ?y)"
        self.assertEqual(told(asked("x y", "both 2 call q 1 ?x same ?y ?x", program)), [((0, 0), "?0 ?0")])

    def test_again_in_each_call(self):
        program = "new 1 x = fresh 1 y same ?x (?y)"
        self.assertEqual(told(asked("x y", "both 2 call new 1 ?x call new 1 ?y", program)), [((0, 0), "(?0) (?1)")])
        self.assertEqual(told(asked("x", "both 2 call new 1 ?x call new 1 ?x", program)), [((0, 0), "(?0)")])
        program = "list 1 x = either 2 same ?x () fresh 2 x y both 2 same ?y ?x call list 1 ?y"
        self.assertEqual(told(asked("x", "call list 1 ?x", program), 3),
                         [((0, 0), "()"), ((0, 1, 0, 0), "?0"), ((0, 1, 0, 1, 0, 0), "?0")])

    def test_a_hiding_name_in_a_call(self):
        program = "hide 2 x y = fresh 1 x both 2 same ?x 1 same ?y (?x)"
        self.assertEqual(told(asked("x y", "call hide 2 ?x ?y", program)), [((0,), "?0 (1)")])
        self.assertEqual(told(asked("x y", "fresh 1 y both 2 same ?y 5 call hide 2 ?y ?x", program)), [((0,), "(1) ?0")])


class Taking(unittest.TestCase):
    def test_turns_is_told(self):
        self.assertEqual(TURNS, 200)

    def test_ahead_of_all(self):
        for names, goal in [*ENDLESS, *ENDING]:
            self.assertEqual(state(Search(WORLD, names, goal)), (0, 0, 1, False))

    def test_behind_each_bit(self):
        for names, goal in [*ENDLESS, *ENDING]:
            events = plain_events(WORLD, names, goal, 60)
            for many, limit in ((0, 5), (1, 0), (1, 1), (1, 3), (1, None), (2, 7), (3, None), (5, 1), (60, 4), (60, 60)):
                search = Search(WORLD, names, goal)
                at = 0
                for _ in range(12):
                    after, answers = self.bit(events, at, many, 200 if limit is None else limit)
                    if after is None:
                        break
                    got = search.take(many) if limit is None else search.take(many, limit=limit)
                    self.assertEqual(got, answers)
                    at = after
                    rounds, opened = (events[at - 1][4], events[at - 1][3]) if at else (0, 1)
                    self.assertEqual(state(search), (at, rounds, opened, opened == 0))

    def bit(self, events, at, many, limit):
        """The turn behind the last one that a take has, and what it tells; None where the events don't reach so far."""
        answers, had = [], 0
        while len(answers) < many and had < limit and (at == 0 or events[at - 1][3]):
            if at == len(events):
                return None, None
            path, word, shown = events[at][:3]
            answers += [(path, shown)] if word == "answer" else []
            at += 1
            had += 1
        return at, tuple(answers)

    def test_many_and_limit_by_their_names(self):
        search = Search(WORLD, *ENDLESS[0])
        self.assertEqual(len(search.take(limit=5)), 1)
        self.assertEqual(len(search.take(limit=60, many=3)), 3)
        self.assertEqual(len(search.take(many=2)), 2)
        self.assertEqual(len(search.take(2, limit=4)), 1)
        with self.assertRaises(TypeError):
            search.take(1, 5)

    def test_a_take_of_none_has_no_turn(self):
        search = Search(WORLD, *ENDLESS[0])
        self.assertEqual(search.take(0), ())
        self.assertEqual(search.take(0, limit=0), ())
        self.assertEqual(search.take(0, limit=300), ())
        self.assertEqual(state(search), (0, 0, 1, False))
        search.take(2)
        before = state(search)
        self.assertEqual(search.take(0), ())
        self.assertEqual(search.take(5, limit=0), ())
        self.assertEqual(state(search), before)

    def test_behind_the_end(self):
        for names, goal in ENDING:
            search = Search(WORLD, names, goal)
            search.take(300)
            before = state(search)
            self.assertIs(search.ended(), True)
            self.assertEqual((search.take(), search.take(5, limit=9)), ((), ()))
            self.assertEqual(state(search), before)

    def test_limit_left_out_is_200(self):
        search = Search(WORLD, ("x",), ("call", "loop", (X,)))
        self.assertEqual(search.take(), ())
        self.assertEqual(state(search), (200, 200, 1, False))
        self.assertEqual(search.take(300, limit=100), ())
        self.assertEqual(search.turns(), 300)

    def test_one_by_one_by_bits_and_at_once(self):
        for names, goal in [*ENDLESS, *ENDING]:
            whole = Search(WORLD, names, goal).take(12, limit=120)
            single = Search(WORLD, names, goal)
            one_by_one = [answer for _ in range(12) for answer in single.take(1, limit=120 - single.turns())]
            self.assertEqual(tuple(one_by_one), whole)
            for size in (1, 2, 7):
                search = Search(WORLD, names, goal)
                bits = []
                while len(bits) < len(whole):
                    bits += search.take(12 - len(bits), limit=size)
                self.assertEqual(tuple(bits), whole)

    def test_no_turn_that_is_not_needed(self):
        search = asked("x", "either 3 same ?x 1 same ?x 2 either 1 same ?x 3")
        for answers, turns, opened in ((1, 2, 2), (1, 3, 1), (1, 5, 0), (0, 5, 0)):
            self.assertEqual(len(search.take()), answers)
            self.assertEqual((search.turns(), len(search)), (turns, opened))
        search = asked("x", "either 3 same ?x 1 same ?x 2 either 1 same ?x 3")
        self.assertEqual((len(search.take(3)), state(search)), (3, (5, 3, 0, True)))

    def test_no_end_beside_others(self):
        goal = ("either", (("call", "loop", (X,)), ("call", "upward", (X,)), ("call", "count", (X,)), ("same", X, "end")))
        answers = told(Search(WORLD, ("x",), goal), 5)
        self.assertEqual([text for path, text in answers], ["end", "()", "(one)", "(one one)", "(one one one)"])

    def test_each_open_branch_has_one_turn_in_a_round(self):
        for names, goal in [*ENDLESS, *ENDING]:
            search = Search(WORLD, names, goal)
            while not search.ended() and search.turns() < 100:
                opened, rounds = len(search), search.rounds()
                search.take(300, limit=opened)
                self.assertEqual(search.rounds(), rounds + 1)

    def test_two_searches_by_turns(self):
        for names, goal in [*ENDLESS, *ENDING]:
            alone = [answer for answer in Search(WORLD, names, goal).take(20, limit=80)]
            one, other = Search(WORLD, names, goal), Search(WORLD, names, goal)
            first, second = [], []
            for at in range(80):
                first += one.take(1, limit=1)
                second += other.take(1, limit=1) if at % 2 else ()
            self.assertEqual(first[:20], alone[:20])
            self.assertEqual(second, first[:len(second)])
            self.assertEqual(one.turns(), min(80, one.turns()))
            second += other.take(300, limit=80 - other.turns())
            self.assertEqual(second, first)

    def test_three_hundred_turns(self):
        for names, goal in ENDLESS:
            search = Search(WORLD, names, goal)
            answers = search.take(300, limit=300)
            self.assertEqual(search.turns(), 300)
            paths = [path for path, shown in answers]
            self.assertEqual(sorted(paths, key=lambda path: (len(path), path)), paths)
            self.assertEqual(len(set(paths)), len(paths))

    def test_nothing_is_changed(self):
        before = copy.deepcopy((WORLD, ENDLESS, ENDING))
        for names, goal in [*ENDLESS, *ENDING]:
            Search(WORLD, names, goal).take(5, limit=50)
        self.assertEqual((WORLD, ENDLESS, ENDING), before)


class ByTheWords(unittest.TestCase):
    """Against branches with Stores, done as the document tells."""

    def check(self, program, names, goal, most):
        search = Search(program, names, goal)
        words = []
        for path, word, shown, opened, rounds in plain_events(program, names, goal, most):
            self.assertEqual(search.take(1, limit=1), ((path, shown),) if word == "answer" else (), (program, goal))
            self.assertEqual((search.rounds(), len(search)), (rounds, opened))
            words.append((word, shown))
        return words

    def test_programs(self):
        for names, goal in [*ENDLESS, *ENDING]:
            self.check(WORLD, names, goal, 90)
        for goal in (("call", "free", (X, Y)), ("call", "twice", (X, Y)), ("call", "even", (X,))):
            self.check(PROGRAM, ("x", "y"), goal, 90)

    def test_by_chance(self):
        words = []
        for seed in range(2500):
            words += self.check(*random_question(seed), 40)
        self.assertTrue(min(sum(word == one for word, shown in words) for one in ("answer", "over", "parted")) > 1000)

    def test_limits_by_chance(self):
        shown = []
        for seed in range(1500):
            rng = Random(seed)
            goals = tuple(self.saying(rng, ("x", "y", "z", "a", "b", "c")) for _ in range(rng.randrange(3, 9)))
            goal = ("fresh", ("a", "b", "c"), ("both", goals))
            shown += [row for word, row in self.check((), ("x", "y", "z"), goal, 20) if word == "answer"]
        self.assertTrue(sum(len(row[1]) > 1 for row in shown) > 10)
        self.assertTrue(min(sum(row[at] != () for row in shown) for at in (1, 2, 3)) > 100)

    def saying(self, rng, names):
        word = rng.choice(("same", "unlike", "unlike", "unlike", "number", "word", "absent", "either"))
        if word == "either":
            return (word, tuple(self.saying(rng, names) for _ in range(2)))
        if word in ("same", "unlike"):
            return (word, self.term(rng, names, 3), self.term(rng, names, 3))
        term = ("?", rng.choice(names))
        return (word, rng.choice((0, 1, "a", "b")), (term, ("?", rng.choice(names)))) if word == "absent" else (word, term)

    def term(self, rng, names, deep):
        if deep <= 1 or rng.random() < 0.4:
            return ("?", rng.choice(names)) if rng.random() < 0.75 else rng.choice((0, 1, 2, "a", "b", ()))
        return (self.term(rng, names, deep - 1), self.term(rng, names, deep - 1))


class Shown(unittest.TestCase):
    TEXTS = [
        ("x y", "same ?x ?y", "?0 ?0"),
        ("x y z", "same (?x . ?y) ((?z) . ?z)", "(?0) ?0 ?0"),
        ("x y z", "same ?y (?z ?x)", "?0 (?1 ?0) ?1"),
        ("x y", "fresh 2 a b same (?x . ?y) ((?b ?a) . ?a)", "(?0 ?1) ?1"),
        # Of the unknowns that stand in the terms alone.
        ("x", "fresh 1 a both 4 unlike ?x ?a unlike ?a 1 number ?a absent b ?a", "?0"),
        ("x", "fresh 1 a both 3 same ?x (?a) unlike ?a 1 absent b ?x", "(?0) | not ?0 = 1; absent b ?0"),
        ("x", "fresh 2 a b both 2 unlike (?x . ?a) (1 . ?b) unlike ?x 2", "?0 | not ?0 = 2"),
        ("x y", "fresh 1 a both 3 unlike (?x . ?y) (?a . 1) same ?a 2 word ?y", "?0 ?1 | word ?1"),
        ("x y", "fresh 1 a both 3 unlike (?x . ?y) (?a . b) same ?a 2 word ?y", "?0 ?1 | not ?0 = 2, ?1 = b; word ?1"),
        # By the new numbers, each the filling that says the same by these.
        ("x y z", "both 2 unlike ?x ?z same ?y (?z)", "?0 (?1) ?1 | not ?1 = ?0"),
        ("x y", "fresh 3 a b c both 2 same (?x . ?y) ((?c . ?b) . ?a) unlike (?a . ?b) (?b . ?c)",
         "(?0 . ?1) ?2 | not ?1 = ?0, ?2 = ?0"),
        ("x y", "fresh 2 a b both 3 same ?x (?b) same ?y ?a unlike ?b (?a)", "(?0) ?1 | not ?0 = (?1)"),
        ("x y", "fresh 2 a b both 4 same ?x (?b . ?a) number ?a word ?b unlike ?y (?a . ?b)",
         "(?0 . ?1) ?2 | not ?2 = (?1 . ?0); word ?0; number ?1"),
        # Least, and by their texts.
        ("x y", "both 3 unlike (?x . ?y) (1 . 2) unlike ?x 1 unlike (?x . ?y) (1 . 3)", "?0 ?1 | not ?0 = 1"),
        ("x y", "both 2 unlike (?x . ?y) (1 . 1) unlike ?x ?y", "?0 ?1 | not ?1 = ?0"),
        ("x", "both 4 unlike ?x 10 unlike ?x 9 unlike ?x a unlike ?x (1)",
         "?0 | not ?0 = (1); not ?0 = 10; not ?0 = 9; not ?0 = a"),
        ("x", "both 4 unlike ?x 10 unlike ?x a unlike ?x () number ?x", "?0 | not ?0 = 10; number ?0"),
        ("x", "both 3 absent 10 ?x absent 9 ?x unlike ?x (9)", "?0 | absent 10 ?0; absent 9 ?0"),
        ("x", "both 4 absent 10 ?x absent 9 ?x absent a ?x word ?x", "?0 | word ?0; absent a ?0"),
        ("x y", "both 3 absent a (?y . ?x) absent 1 ?x same ?y (?x . 2)", "?0 (?0 . 2) | absent 1 ?0; absent a ?0"),
        ("x", "unlike ?x (1 . ?x)", "?0"),
        ("", "fresh 1 a unlike ?a 1", ""),
    ]

    def test_as_it_is_written(self):
        for names, goal, text in self.TEXTS:
            with self.subTest(goal):
                self.assertEqual(told(asked(names, goal)), [((), text)])

    def test_in_whatever_order_things_were_said(self):
        for names, goal, text in self.TEXTS:
            fresh = read_goal(goal)
            around = fresh[:2] if fresh[0] == "fresh" else ()
            inner = fresh[2] if around else fresh
            if inner[0] != "both":
                continue
            for seed in range(6):
                goals = list(inner[1])
                Random(seed).shuffle(goals)
                goal = (*around, ("both", tuple(goals))) if around else ("both", tuple(goals))
                self.assertEqual(told(asked(names, goal)), [((), text)])

    def test_what_it_has(self):
        for seed in range(1500):
            program, names, goal = random_question(seed)
            for path, shown in Search(program, names, goal).take(5, limit=15):
                terms, rows, kinds, absents = shown
                self.assertEqual(terms, renamed(terms))
                self.assertEqual(len(terms), len(names))
                known = set(unknowns_in(listed(*terms)))
                self.assertLessEqual({n for n, kind in kinds} | {n for n, atom in absents}, known)
                self.assertTrue(all(is_filling(row) and row for row in rows))
                self.assertLessEqual(set(unknowns_in(listed(*[(unknown(n), term) for row in rows for n, term in row]))), known)
                self.assertEqual([show_filling(row) for row in rows], sorted({show_filling(row) for row in rows}))

    def test_covered_is_covered(self):
        for names, goal in [*ENDLESS, *ENDING]:
            for path, shown in Search(WORLD, names, goal).take(12, limit=60):
                values = covered(shown)
                self.assertTrue(all(is_ground(value) for value in values) and len(values) == len(names))
                self.assertIs(covers(shown, values), True)

    def test_covers_just_what_the_goal_holds_of(self):
        """Without eithers and calls there is one answer, at most, and it covers what makes the goal so."""
        pool = [0, 1, "a", (), (0, 1), listed("a")]
        said = [("unlike", (X, Y), (Y, A)), ("same", A, 1), ("absent", "a", X), ("unlike", Y, listed("a"))]
        shown = Search((), ("x", "y"), ("fresh", ("a",), ("both", tuple(said)))).take()[0][1]
        for table in all_tables((0, 1), pool):
            x, y = table[0], table[1]
            right = (x, y) != (y, 1) and x not in ("a", listed("a")) and y != listed("a")
            self.assertIs(covers(shown, (x, y)), right, (x, y))


class Bounds(unittest.TestCase):
    def test_a_goal_of_forty_goals_eight_within_one_another(self):
        goal = ("same", X, 1)
        for _ in range(6):
            goal = ("both", (goal,))
        goal = ("both", (goal, *[("unlike", X, at) for at in range(2, 33)]))
        self.assertEqual(told(asked("x", goal)), [((), "1")])
        goal = ("either", tuple(("same", X, at) for at in range(39)))
        search = asked("x", goal)
        self.assertEqual(told(search), [((at,), str(at)) for at in range(39)])
        self.assertEqual(search.turns(), 40)

    def test_four_names_and_great_terms(self):
        term = grown(300, 30, lambda at: ("?", "xyzl"[at % 4]))
        other = grown(300, 30, lambda at: at % 4)
        answers = asked("x y z l", ("same", term, other)).take()
        self.assertEqual(answers, (((), ((0, 1, 2, 3), (), (), ())),))
        self.assertEqual(asked("x y z l", ("both", (("unlike", term, other), ("same", (X, Y), (0, 1))))).take()[0][1][1],
                         (((0, 2), (1, 3)),))

    def test_terms_that_share_their_parts_are_never_written_out(self):
        # Each call doubles the term: three hundred turns are had as quickly as others.
        program = read_program(
            "double 2 x y = either 2 fresh 1 a both 3 same ?a (?x . ?x) unlike ?a ?y call double 2 ?a ?y "
            "fresh 1 d both 3 absent 1 ?x number ?d same ?y (?d)")
        search = Search(program, ("x", "y"), ("call", "double", (X, Y)))
        self.assertEqual(len(search.take(300, limit=20)), 6)
        search = Search(program[:1], ("x", "y"), ("either", (("call", "double", (X, Y)), ("same", X, 1))))
        self.assertEqual(search.take()[0][1][0], (1, unknown(0)))
        loop = read_program("double 2 x y = fresh 1 a both 3 same ?a (?x . ?x) unlike ?a ?y call double 2 ?a ?y")
        search = Search(loop, ("x", "y"), ("either", (("call", "double", (X, Y)), ("same", X, 1))))
        self.assertEqual(len(search.take(2, limit=300)), 1)
        self.assertEqual(search.turns(), 300)

    def test_long_paths(self):
        search = Search(WORLD, ("x",), ("call", "count", (X,)))
        answers = search.take(28)
        self.assertEqual([shown[0][0] for path, shown in answers], [listed(*["one"] * at) for at in range(28)])
        self.assertEqual([len(path) for path, shown in answers], [2 + 2 * at for at in range(28)])

    def test_forty_figures(self):
        search = asked("x", ("both", (("unlike", X, LONG), ("number", X), ("absent", -LONG, X))))
        self.assertEqual(told(search), [((), f"?0 | not ?0 = {LONG}; number ?0; absent -{LONG} ?0")])
        self.assertEqual(told(asked("x z", ("both", (("same", X, Z), ("same", Z, -LONG))))), [((), f"-{LONG} -{LONG}")])


if __name__ == "__main__":
    unittest.main()
