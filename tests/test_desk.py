import unittest
from random import Random

from programs import ENDING, ENDLESS, WORLD
from samples import NO_TERMS, NO_WORDS, TERMS
from spoiling import ANYTHING

from fairsearch.desk import Desk
from fairsearch.errors import Missing, NoGoal, NoProgram, NoRow, Taken, Used
from fairsearch.goaltexts import read_goal, read_relation, show_goal, show_relation
from fairsearch.searches import Search
from fairsearch.shelves import Shelf
from fairsearch.showing import show_answer

COUNT = "count 1 x = either 2 same ?x () fresh 1 d both 2 same ?x (one . ?d) call count 1 ?d"
NIL = "nil 1 x = same ?x ()"
LOOP = "loop 0 = call loop 0"


class Case(unittest.TestCase):
    def desk(self, *texts):
        desk = Desk()
        for text in texts:
            desk.say(text)
        return desk

    def says(self, desk, text, told):
        self.assertEqual(desk.say(text), told)
        self.assertEqual(desk.said(), tuple(told.split("\n")))

    def refused(self, error, desk, text, said=(), **named):
        with self.assertRaises(error) as caught:
            desk.say(text)
        self.assertIs(type(caught.exception), error)
        self.assertEqual({name: getattr(caught.exception, name) for name in named}, named)
        self.assertEqual(desk.said(), tuple(said))


class Rows(Case):
    def test_each_kind_of_row(self):
        desk = Desk()
        self.assertEqual(desk.said(), ())
        self.says(desk, "names", "()")
        self.says(desk, "titles", "()")
        self.says(desk, f"put {COUNT}", "ok")
        self.says(desk, f"put {NIL} / {LOOP}", "ok")
        self.says(desk, "names", "count loop nil")
        self.says(desk, "relation nil", NIL)
        self.says(desk, "relation count", COUNT)
        self.says(desk, "drop loop", "ok")
        self.says(desk, "begin t 1 x = call count 1 ?x", "ok")
        self.says(desk, "begin first 0 = both 0", "ok")
        self.says(desk, "titles", "t first")
        self.says(desk, "turns t", "0")
        self.says(desk, "go t 3", "() / (one) / (one one)")
        self.says(desk, "turns t", "9")
        self.says(desk, "go t 1", "(one one one)")
        self.says(desk, "go t 0", "()")
        self.says(desk, "end t", "ok")
        self.says(desk, "titles", "first")
        self.says(desk, "names", "count nil")

    def test_several_rows(self):
        desk = Desk()
        self.says(desk, f"put {COUNT}\nbegin t 1 x = call count 1 ?x\ngo t 2\nturns t\ntitles\nnames\nend t\ntitles",
                  "ok\nok\n() / (one)\n6\nt\ncount\nok\n()")
        self.says(desk, "names", "count")

    def test_answers_as_they_are_shown(self):
        desk = self.desk("begin t 2 x y = either 3 unlike ?x ?y both 2 number ?x absent a ?y same ?x (1 ?y)")
        self.says(desk, "go t 50", "?0 ?1 | not ?1 = ?0 / ?0 ?1 | number ?0; absent a ?1 / (1 ?0) ?0")
        self.says(desk, "go t 50", "()")
        desk = self.desk("begin t 1 x = either 2 same ?x () same ?x (())")
        self.says(desk, "go t 1", "()")
        self.says(desk, "go t 1", "(())")
        self.says(desk, "go t 1", "()")

    def test_an_answer_without_names_is_written_so(self):
        desk = self.desk("begin t 0 = either 3 both 0 both 0 both 0")
        self.says(desk, "go t 1", "")
        self.says(desk, "go t 2", " / ")
        self.says(desk, "go t 2", "()")

    def test_many_from_0_to_50(self):
        desk = self.desk(f"put {COUNT}", "begin t 1 x = call count 1 ?x")
        search = Search((read_relation(COUNT),), ("x",), read_goal("call count 1 ?x"))
        for many in (0, 1, 9, 10):
            line = " / ".join(show_answer(shown) for path, shown in search.take(many)) or "()"
            self.says(desk, f"go t {many}", line)
        self.assertEqual(desk.say("turns t"), str(search.turns()))
        desk = self.desk(f"put {COUNT}", "begin t 1 x = call count 1 ?x")
        texts = ["()", *["(" + " ".join(["one"] * at) + ")" for at in range(1, 53)]]
        self.says(desk, "go t 50", " / ".join(texts[:50]))
        for text in ("51", "99", "100", "050", "00", "-1", "", "+1", "1.0", "a", "?0", "()", "1 ", " 1", "1 1", "50" * 50):
            self.refused(NoRow, desk, f"go t {text}", at=0)
        self.says(desk, "go t 3", " / ".join(texts[50:53]))

    def test_begin_with_names_alike(self):
        desk = Desk()
        self.refused(NoGoal, desk, "begin t 2 x x = same ?x 1", title="t")
        self.refused(NoGoal, desk, "begin t 3 x y x = both 0", title="t")
        self.refused(NoRow, desk, "put nil 2 x x = same ?x 1", at=0)
        self.refused(NoRow, desk, "begin t 1 x = fresh 2 y y same ?x 1", at=0)
        self.says(desk, "begin t 2 x y = same ?x 1", "ok")
        self.refused(Taken, desk, "begin t 2 x x = same ?x 1", name="t")

    def test_begin_with_goals_that_are_no_question(self):
        desk = self.desk(f"put {NIL}")
        for goal in ("same ?y 1", "call nil 0", "call nil 2 ?x ?x", "call other 1 ?x", "fresh 1 z same ?y ?z",
                     "both 2 both 0 either 1 call nil 1 ?y"):
            self.refused(NoGoal, desk, f"begin t 1 x = {goal}", title="t")
        self.says(desk, "begin t 1 x = call nil 1 (?x)", "ok")

    def test_put_by_the_program(self):
        desk = Desk()
        self.refused(NoProgram, desk, "put even 1 x = call odd 1 ?x / a 0 = both 0", coming=("even", "a"))
        self.refused(NoProgram, desk, "put even 1 x = same ?x ?y", coming=("even",))
        self.says(desk, "put even 1 x = call odd 1 ?x / odd 1 x = call even 1 ?x", "ok")
        self.refused(Taken, desk, f"put {NIL} / even 0 = both 0", name="even")
        self.refused(Taken, desk, f"put {NIL} / {NIL}", name="nil")
        self.refused(Used, desk, "drop odd", name="odd", by="even")
        self.refused(Missing, desk, "drop nil", name="nil")
        self.says(desk, "names", "even odd")

    def test_missing(self):
        desk = self.desk(f"put {NIL}", "begin t 1 x = call nil 1 ?x")
        for row in ("drop t", "relation t", "go nil 1", "end nil", "turns nil"):
            self.refused(Missing, desk, row, name=row.split()[1])

    def test_as_a_shelf_does(self):
        for names, goal in [*ENDLESS, *ENDING]:
            desk = self.desk("\n".join(f"put {show_relation(row)}" for row in WORLD if row[0] != "walk"),
                             f"put {show_relation(WORLD[-1])}")
            desk.say(" ".join(["begin", "t", str(len(names)), *names, "=", show_goal(goal)]))
            shelf = Shelf(WORLD)
            shelf.do(("begin", "t", names, goal))
            for many in (1, 2, 5):
                texts = [show_answer(shown) for path, shown in shelf.do(("go", "t", many))]
                self.says(desk, f"go t {many}\nturns t", (" / ".join(texts) if texts else "()") + f"\n{shelf.turns('t')}")


NO_ROWS = [
    "", " ", "put", "put ", f"put  {NIL}", f"put {NIL} ", f"put {NIL} /", f"put {NIL} / ", f"put {NIL}/{NIL}", f"put {NIL}, {LOOP}",
    f"put {NIL} /  {LOOP}", f"put / {NIL}", f"Put {NIL}", f"put {NIL} {LOOP}", "put nil 1 x same ?x ()", "put nil x = same ?x ()",
    "put nil 2 x = same ?x ()", "put nil 1 x = same ?x", "put nil 1 X = both 0", "put 1 = both 0", f" put {NIL}", "put nil",
    "drop", "drop ", "drop  nil", "drop nil ", "drop Nil", "drop 1", "drop nil nil", "drop abcdefghi", "drop ?x", "drops nil",
    "begin", "begin ", "begin t", "begin t 1 x", "begin t 1 x =", "begin t 1 x = ", "begin t x = both 0", "begin t 2 x = both 0",
    "begin t 1 x y = both 0", "begin T 1 x = both 0", "begin t 1 X = both 0", "begin t 01 x = both 0", "begin t 1 x  = both 0",
    "begin t 1 x = both 0 ", "begin t 1 x = both", "begin t 1 x = both 1", "begin t 1 x = same ?0 1", "begin 1 x = both 0",
    "begin t 1 x = same ?x 01", "begin t -1 = both 0", "begin t 1 x : both 0", "begin t 1 x = both 0 both 0",
    "go", "go t", "go t ", "go  t 1", "go t  1", "go 1", "go T 1", "go t one", "go t 1 2", "go t 1 ", "go 1 t", "go ?t 1",
    "end", "end ", "end T", "end t t", "end 1", " end t", "names ", " names", "names t", "Names", "name", "namesnames",
    "titles ", "titles t", "title", "relation", "relation ", "relation Nil", "relation nil nil", "relations nil", "turns",
    "turns ", "turns T", "turns t 1", "turn t", "say", "some", "all", "some ()", "log", "inside", "open t", "?", "()", "/", "\t",
    "names\r", "names\tt", "take t 1",
]


class NoRows(Case):
    def test_no_such_rows(self):
        for row in NO_ROWS:
            with self.subTest(row):
                desk = self.desk(f"put {COUNT}", "begin t 1 x = call count 1 ?x")
                self.refused(NoRow, desk, row, at=0)
                self.refused(NoRow, desk, f"names\nturns t\n{row}\nend t", at=2, said=("count", "0"))
                self.refused(NoRow, desk, f"go t 2\n{row}", at=1, said=("() / (one)",))
                self.assertEqual(desk.say("turns t\ntitles\nnames"), "6\nt\ncount")

    def test_line_ends(self):
        desk = self.desk(f"put {COUNT}")
        self.refused(NoRow, desk, "\n", at=0)
        self.refused(NoRow, desk, "names\n", at=1, said=("count",))
        self.refused(NoRow, desk, "\nnames", at=0)
        self.refused(NoRow, desk, "names\n\nnames", at=1, said=("count",))

    def test_what_is_no_text(self):
        desk = self.desk(f"put {COUNT}")
        for thing in [*ANYTHING, *NO_TERMS, *TERMS]:
            if not isinstance(thing, str):
                desk.say("names")
                self.assertEqual(desk.said(), ("count",))
                self.refused(NoRow, desk, thing, at=0)

    def test_texts_of_any_kind(self):
        desk = self.desk(f"put {COUNT}")
        for text in [*NO_WORDS, *[thing for thing in [*ANYTHING, *NO_TERMS, *TERMS] if isinstance(thing, str)]]:
            self.refused(NoRow, desk, text, at=0)
        for text in ("(" * 3000, "put a 0 = " + "both 1 " * 500, "begin t 0 = same " + "(" * 300, "put " + "/ " * 1000,
                     "go t " + "9" * 3000, "begin t " + "9" * 3000 + " x = both 0", "names " * 500):
            self.refused(NoRow, desk, text, at=0)

    def test_the_first_that_is_refused(self):
        desk = Desk()
        self.refused(Missing, desk, f"put {NIL}\ndrop other\nnothing", said=("ok",), name="other")
        self.refused(NoRow, desk, f"put {COUNT}\nnothing\ndrop other", said=("ok",), at=1)
        self.refused(Missing, desk, "turns t\nnothing", name="t")
        self.assertEqual(desk.say("names"), "count nil")

    def test_those_ahead_stay_done(self):
        desk = self.desk(f"put {COUNT}")
        text = "begin t 1 x = call count 1 ?x\ngo t 2\nbegin t 1 x = both 0\nend t"
        self.refused(Taken, desk, text, said=("ok", "() / (one)"), name="t")
        self.assertEqual(desk.say("titles\nturns t"), "t\n6")
        self.refused(NoGoal, desk, "go t 1\nbegin u 1 x = same ?y 1", said=("(one one)",), title="u")
        self.assertEqual(desk.say("turns t"), "9")


class Said(Case):
    def test_behind_whole_texts_and_refusals(self):
        desk = Desk()
        self.assertEqual(desk.said(), ())
        desk.say(f"put {COUNT}\nnames")
        self.assertEqual(desk.said(), ("ok", "count"))
        self.assertEqual(desk.said(), ("ok", "count"))
        self.refused(NoRow, desk, "nothing", at=0)
        desk.say("titles")
        self.assertEqual(desk.said(), ("()",))
        self.refused(Missing, desk, "names\nturns t", said=("count",), name="t")
        self.refused(NoRow, desk, None, at=0)
        self.assertEqual(desk.said(), ())
        self.assertIsInstance(desk.said(), tuple)

    def test_no_two_share_anything(self):
        one, other = Desk(), Desk()
        one.say(f"put {COUNT}\nbegin t 1 x = call count 1 ?x")
        self.assertEqual(other.said(), ())
        self.assertEqual(other.say("names\ntitles"), "()\n()")
        other.say(f"put {COUNT}\nbegin t 1 x = call count 1 ?x")
        one.say("go t 2")
        self.assertEqual(other.say("turns t"), "0")

    def test_rows_one_by_one_or_at_once(self):
        rows = [f"put {COUNT} / {NIL}", "begin t 1 x = call count 1 ?x", "go t 2", "names", "drop count", "go t 2", "turns t",
                f"put {LOOP}", "relation loop", "begin u 0 = call loop 0", "go u 5", "turns u", "end t", "titles"]
        whole = Desk()
        lines = whole.say("\n".join(rows)).split("\n")
        single = Desk()
        self.assertEqual([single.say(row) for row in rows], lines)
        self.assertEqual(whole.said(), tuple(lines))
        for seed in range(10):
            desk, rng, left, told = Desk(), Random(seed), list(rows), []
            while left:
                many = rng.randrange(1, 5)
                told += desk.say("\n".join(left[:many])).split("\n")
                left = left[many:]
            self.assertEqual(told, lines)


if __name__ == "__main__":
    unittest.main()
