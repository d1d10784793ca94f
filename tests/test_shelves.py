import copy
import unittest
from random import Random

from plainshelf import REFUSALS, PlainShelf, replayed
from programs import (
    APPEND, COUNT, EVEN, FREE, GOALS, LINK, LOOP, MEMBER, NEVER, ODD, PLUS, PROGRAM, TRUE, UPWARD, WALK, WORLD, X, Y,
)
from samples import NO_TERMS, NO_WORDS, TERMS
from spoiling import ANYTHING, spoilt

from fairsearch.errors import Missing, NoDeed, NoGoal, NoProgram, Taken, Used
from fairsearch.searches import Search
from fairsearch.shelves import Shelf

ASK = ("call", "count", (X,))
NIL = ("nil", ("x",), ("same", X, ()))


def fields(error):
    return (type(error), vars(error))


def outcome(shelf, deed):
    """What a deed tells, or how it is refused."""
    try:
        return ("told", shelf.do(deed))
    except REFUSALS as error:
        return ("refused", fields(error))


def standing(shelf):
    """All that a Shelf tells."""
    titles = shelf.titles()
    return (
        [shelf.relation(name) for name in shelf.names()],
        [(title, shelf.turns(title), shelf.open_ones(title)) for title in titles], len(shelf), shelf.log(), shelf.inside(),
    )


class Case(unittest.TestCase):
    def refused(self, error, shelf, deed, logged=True, **named):
        """The deed is refused so, and changes nothing but the log."""
        before = standing(shelf)
        with self.assertRaises(error) as caught:
            shelf.do(deed)
        self.assertIs(type(caught.exception), error)
        self.assertEqual({name: getattr(caught.exception, name) for name in named}, named)
        after = standing(shelf)
        self.assertEqual(after[:3], before[:3])
        added = ((deed[0], True), (deed[0], False)) if logged else ()
        self.assertEqual(after[3:], (before[3] + added, 0))


class Deeds(Case):
    def test_a_new_one(self):
        self.assertEqual(standing(Shelf()), ([], [], 0, (), 0))
        self.assertEqual((Shelf().names(), Shelf().titles()), ((), ()))
        shelf = Shelf(WORLD)
        self.assertEqual(shelf.names(), tuple(row[0] for row in WORLD))
        self.assertEqual(Shelf(program=PROGRAM).relation("free"), FREE)

    def test_put(self):
        shelf = Shelf()
        self.assertIsNone(shelf.do(("put", (NIL,))))
        self.assertIsNone(shelf.do(("put", (ODD, EVEN))))
        self.assertEqual(shelf.names(), ("even", "nil", "odd"))
        self.assertEqual([shelf.relation(name) for name in ("odd", "nil", "even")], [ODD, NIL, EVEN])
        self.assertEqual(shelf.log(), (("put", True), ("put", False)) * 2)

    def test_put_taken(self):
        shelf = Shelf((NIL, TRUE))
        other = ("nil", (), ("both", ()))
        self.refused(Taken, shelf, ("put", (NIL,)), name="nil")
        self.refused(Taken, shelf, ("put", (COUNT, other, ("true", (), ("both", ())))), name="nil")
        self.refused(Taken, shelf, ("put", (COUNT, LOOP, COUNT, other)), name="count")
        self.refused(Taken, shelf, ("put", (COUNT, LOOP, other, COUNT)), name="nil")
        # Ahead of a program that isn't right.
        self.refused(Taken, shelf, ("put", (ODD, TRUE)), name="true")
        self.refused(Taken, shelf, ("put", (*WORLD, TRUE, ODD)), name="true")

    def test_put_no_program(self):
        shelf = Shelf((NIL,))
        self.refused(NoProgram, shelf, ("put", (ODD,)), coming=("odd",))
        self.refused(NoProgram, shelf, ("put", (WALK, COUNT)), coming=("walk", "count"))
        self.refused(NoProgram, shelf, ("put", (("a", ("x",), ("same", X, Y)),)), coming=("a",))
        self.refused(NoProgram, shelf, ("put", (("a", ("x",), ("call", "nil", ())),)), coming=("a",))
        self.refused(NoProgram, shelf, ("put", (("b", (), ("call", "a", ())), ("a", ("x",), ("both", ())))), coming=("b", "a"))
        self.refused(NoProgram, shelf, ("put", WORLD), coming=tuple(row[0] for row in WORLD))
        shelf.do(("put", (UPWARD, COUNT, LINK, LOOP, APPEND, MEMBER, PLUS)))
        self.assertEqual(len(shelf.names()), 8)
        self.refused(NoProgram, shelf, ("put", (TRUE,)), coming=("true",))
        shelf.do(("drop", "plus"))
        self.refused(NoProgram, shelf, ("put", (TRUE, NEVER)), coming=("true", "never"))
        shelf.do(("put", (TRUE,)))

    def test_drop(self):
        shelf = Shelf(WORLD)
        self.assertIsNone(shelf.do(("drop", "count")))
        self.assertNotIn("count", shelf.names())
        self.refused(Missing, shelf, ("drop", "count"), name="count")
        self.refused(Used, shelf, ("drop", "link"), name="link", by="walk")
        shelf.do(("drop", "walk"))
        shelf.do(("drop", "link"))
        self.assertEqual(shelf.names(), ("append", "loop", "member", "plus", "upward"))

    def test_used_by_the_first_other_one(self):
        callers = tuple((name, (), ("both", (("fresh", ("x",), ("either", (("call", "nil", (X,)),))),))) for name in "azb")
        shelf = Shelf()
        shelf.do(("put", (NIL, *callers)))
        for by in "abz":
            self.refused(Used, shelf, ("drop", "nil"), name="nil", by=by)
            shelf.do(("drop", by))
        shelf.do(("drop", "nil"))
        own = ("own", ("x",), ("call", "own", (X,)))
        shelf = Shelf((own,))
        shelf.do(("drop", "own"))
        shelf = Shelf((EVEN, ODD))
        self.refused(Used, shelf, ("drop", "even"), name="even", by="odd")

    def test_begin(self):
        shelf = Shelf(WORLD)
        self.assertIsNone(shelf.do(("begin", "one", ("x",), ASK)))
        self.assertIsNone(shelf.do(("begin", "another", (), ("both", ()))))
        self.assertEqual((shelf.titles(), len(shelf)), (("one", "another"), 2))
        self.assertEqual((shelf.turns("one"), shelf.open_ones("one")), (0, 1))
        self.refused(Taken, shelf, ("begin", "one", ("x",), ASK), name="one")
        # Ahead of what is no question.
        self.refused(Taken, shelf, ("begin", "one", None, None), name="one")
        # Relations and Searches may have the same names.
        self.assertIsNone(shelf.do(("begin", "count", ("y",), ("same", Y, 1))))

    def test_begin_no_goal(self):
        shelf = Shelf((COUNT, LOOP))
        right = [(("x",), ASK), ((), ("both", ())), (("x", "y"), ("same", X, Y)), (("x",), ("call", "loop", (1,)))]
        for at, (names, goal) in enumerate(right):
            self.assertIsNone(shelf.do(("begin", "abcd"[at], names, goal)))
        for names, goal in (
            (("y",), ASK), ((), ASK), (("x", "x"), ASK), (["x"], ASK), ("x", ASK), (None, ASK), (("X",), ASK), (("x", 1), ASK),
            (("x", []), ASK), (("x",), list(ASK)), (("x",), ("call", "count", ())), (("x",), ("call", "other", (X,))),
            (("x",), ("call", "count", (X, X))), (("x",), ()), (("x",), None), (("x",), ("both", [])), (("x",), "both"),
            (("x",), ("same", X, True)), (("x",), ("same", X, ("?", 0))), ({}, {}), ((), ("same", X, X)),
            (("x",), ("fresh", (), ASK)), (("x",), ("fresh", ("y", "y"), ASK)), ((("?", "x"),), ASK),
        ):
            with self.subTest(names=names, goal=goal):
                self.refused(NoGoal, shelf, ("begin", "t", names, goal), title="t")
        for thing in [*ANYTHING, *NO_TERMS, *TERMS]:
            if thing not in (("same", 1, 1), ("both", ()), ("both", (("both", ()),)), ("fresh", ("x",), ("same", X, 1))):
                self.refused(NoGoal, shelf, ("begin", "t", ("x",), thing), title="t")
            if thing != ():
                self.refused(NoGoal, shelf, ("begin", "t", thing, ASK), title="t")

    def test_go(self):
        shelf = Shelf(WORLD)
        shelf.do(("begin", "t", ("x",), ASK))
        search = Search(WORLD, ("x",), ASK)
        for many in (0, 1, 3, 0, 2):
            self.assertEqual(shelf.do(("go", "t", many)), search.take(many))
            self.assertEqual((shelf.turns("t"), shelf.open_ones("t")), (search.turns(), len(search)))
        self.refused(Missing, shelf, ("go", "other", 1), name="other")
        self.refused(Missing, shelf, ("go", "count", 0), name="count")

    def test_a_go_has_two_hundred_turns(self):
        shelf = Shelf(WORLD)
        shelf.do(("begin", "t", ("x",), ("call", "loop", (X,))))
        self.assertEqual(shelf.do(("go", "t", 1)), ())
        self.assertEqual(shelf.turns("t"), 200)

    def test_end(self):
        shelf = Shelf(WORLD)
        shelf.do(("begin", "one", ("x",), ASK))
        shelf.do(("begin", "two", ("x",), ASK))
        shelf.do(("go", "two", 2))
        self.assertIsNone(shelf.do(("end", "one")))
        self.assertEqual((shelf.titles(), len(shelf)), (("two",), 1))
        self.refused(Missing, shelf, ("end", "one"), name="one")
        self.refused(Missing, shelf, ("go", "one", 1), name="one")
        shelf.do(("begin", "one", ("x",), ASK))
        self.assertEqual((shelf.titles(), shelf.turns("one"), shelf.turns("two")), (("two", "one"), 0, 6))

    def test_a_search_keeps_the_program_of_its_beginning(self):
        shelf = Shelf((COUNT,))
        shelf.do(("begin", "t", ("x",), ASK))
        search = Search((COUNT,), ("x",), ASK)
        self.assertEqual(shelf.do(("go", "t", 2)), search.take(2))
        shelf.do(("drop", "count"))
        self.assertEqual(shelf.do(("go", "t", 2)), search.take(2))
        shelf.do(("put", (("count", ("x",), ("same", X, "new")),)))
        self.assertEqual(shelf.do(("go", "t", 2)), search.take(2))
        shelf.do(("begin", "u", ("x",), ASK))
        self.assertEqual(shelf.do(("go", "u", 2)), Search((("count", ("x",), ("same", X, "new")),), ("x",), ASK).take(2))

    def test_missing_in_what_is_told(self):
        shelf = Shelf(WORLD)
        shelf.do(("begin", "t", ("x",), ASK))
        for ask, name in ((shelf.relation, "t"), (shelf.turns, "count"), (shelf.open_ones, "count"), (shelf.turns, "u")):
            with self.assertRaises(Missing) as caught:
                ask(name)
            self.assertEqual(caught.exception.name, name)
        self.assertEqual(shelf.log(), (("begin", True), ("begin", False)))

    def test_nothing_handed_in_is_changed(self):
        deed = ("all", (("put", (COUNT, LOOP)), ("begin", "t", ("x",), ASK), ("go", "t", 3), ("drop", "loop")))
        before = copy.deepcopy(deed)
        Shelf().do(deed)
        self.assertEqual(deed, before)


class NoDeeds(Case):
    def test_no_such_deeds(self):
        shelf = Shelf(WORLD)
        shelf.do(("begin", "t", ("x",), ASK))
        for thing in (
            (), ("put",), ("put", ()), ("put", [NIL]), ("put", NIL), ("put", (NIL,), ()), ("put", (NIL, 1)), ["put", (NIL,)],
            ("put", (list(NIL),)), ("put", (("nil", ["x"], NIL[2]),)), ("put", (("Nil", ("x",), NIL[2]),)),
            ("put", (("nil", ("x", "x"), NIL[2]),)), ("put", (("nil", ("x",), ("same", X)),)), ("put", (NIL[:2],)),
            ("put", (("nil", ("x",), ("same", X, True)),)), ("put", (("nil", ("x",), ("same", X, ("?", 0))),)),
            ("drop",), ("drop", 1), ("drop", "Nil"), ("drop", ""), ("drop", "nil", "nil"), ("drop", None), ("drop", ["a"]),
            ("begin",), ("begin", "t"), ("begin", "t", ("x",)), ("begin", "T", ("x",), ASK), ("begin", 1, ("x",), ASK),
            ("begin", "t", ("x",), ASK, ASK), ("begin", "abcdefghi", ("x",), ASK), ("begin", ["t"], ("x",), ASK),
            ("go",), ("go", "t"), ("go", "t", -1), ("go", "t", True), ("go", "t", False), ("go", "t", "1"), ("go", "t", None),
            ("go", "t", 1, 1), ("go", 1, "t"), ("go", "T", 1), ("go", "t", (1,)), ("go", "t", [1]),
            ("end",), ("end", "T"), ("end", 1), ("end", "t", "t"), ("end", ("t",)),
            ("some",), ("some", []), ("some", None), ("some", (), ()), ("some", "put"), ("some", {}), ["some", ()],
            ("all",), ("all", []), ("all", None), ("all", (), ()), ("all", True), ("ALL", ()), ("al", ()), ("take", "t", 1),
            ("names",), ("titles",), ("turns", "t"), (("put",), (NIL,)), (None, ()), (1, ()), ([], ()), ({}, ()),
        ):
            with self.subTest(thing):
                self.refused(NoDeed, shelf, thing, logged=False, thing=thing)

    def test_of_anything(self):
        shelf = Shelf(WORLD)
        for thing in [*ANYTHING, *NO_TERMS, *NO_WORDS, *TERMS, *GOALS]:
            before = copy.deepcopy(thing)
            with self.assertRaises(NoDeed) as caught:
                shelf.do(thing)
            self.assertIs(caught.exception.thing, thing)
            self.assertEqual(repr(thing), repr(before))
        self.assertEqual(shelf.log(), ())

    def test_those_within_others_when_it_is_their_turn(self):
        for word in ("some", "all"):
            shelf = Shelf()
            with self.assertRaises(NoDeed) as caught:
                shelf.do((word, (("put", (NIL,)), ("drop", "nil"), ("put", (COUNT,)), ["odd"], ("drop", "other"))))
            self.assertEqual(caught.exception.thing, ["odd"])
            self.assertEqual(shelf.names(), ("count",) if word == "some" else ())
            inner = (("put", True), ("put", False), ("drop", True), ("drop", False), ("put", True), ("put", False))
            self.assertEqual(shelf.log(), ((word, True), *inner, (word, False)))
            shelf = Shelf()
            with self.assertRaises(Missing):
                shelf.do((word, (("drop", "nil"), None)))
            self.assertEqual(shelf.log(), ((word, True), ("drop", True), ("drop", False), (word, False)))


class Groups(Case):
    def test_what_they_tell(self):
        for word in ("some", "all"):
            shelf = Shelf(WORLD)
            self.assertEqual(shelf.do((word, ())), ())
            told = shelf.do((word, (("begin", "t", ("x",), ASK), ("go", "t", 2), (word, ()), (word, (("go", "t", 1),)))))
            search = Search(WORLD, ("x",), ASK)
            self.assertEqual(told, (None, search.take(2), (), (search.take(1),)))
            inner = [("begin", True), ("begin", False), ("go", True), ("go", False), (word, True), (word, False)]
            inner += [(word, True), ("go", True), ("go", False), (word, False)]
            self.assertEqual(shelf.log(), ((word, True), (word, False), (word, True), *inner, (word, False)))

    def test_of_some_those_ahead_stay_done(self):
        shelf = Shelf((COUNT, LOOP))
        shelf.do(("begin", "t", ("x",), ASK))
        with self.assertRaises(Taken) as caught:
            shelf.do(("some", (("go", "t", 2), ("drop", "loop"), ("begin", "t", ("x",), ASK), ("drop", "count"))))
        self.assertEqual(caught.exception.name, "t")
        self.assertEqual((shelf.names(), shelf.turns("t")), (("count",), 6))

    def test_of_all_nothing_stays_done(self):
        shelf = Shelf((COUNT, LOOP))
        for title in ("one", "two"):
            shelf.do(("begin", title, ("x",), ASK))
        shelf.do(("go", "one", 2))
        search = replayed(((COUNT, LOOP), ("x",), ASK), shelf.turns("one"))
        before = standing(shelf)
        with self.assertRaises(Missing):
            shelf.do(("all", (
                ("go", "one", 3), ("go", "two", 1), ("end", "one"), ("drop", "loop"), ("put", (NIL,)),
                ("begin", "one", ("x",), ("same", X, 1)), ("begin", "new", ("x",), ASK), ("go", "new", 1), ("end", "two"),
                ("go", "none", 1),
            )))
        self.assertEqual(standing(shelf)[:3], before[:3])
        # Turn by turn: what comes then is what would have come.
        for _ in range(3):
            self.assertEqual(shelf.do(("go", "one", 1)), search.take())
            self.assertEqual((shelf.turns("one"), shelf.open_ones("one")), (search.turns(), len(search)))
        self.assertEqual(shelf.do(("go", "two", 4)), Search((COUNT, LOOP), ("x",), ASK).take(4))

    def test_refused_at_each_place_within_one_another(self):
        good = [("go", "t", 1), ("put", (NIL,)), ("begin", "u", ("y",), ("same", Y, 1)), ("go", "u", 1), ("drop", "loop")]
        bad = [("drop", "none"), ("put", (COUNT,)), ("begin", "t", (), ()), ("go", "none", 1), "nothing", ("some", [])]
        for outer in ("some", "all"):
            for inner in ("some", "all"):
                for at in range(len(good) + 1):
                    for deed in bad:
                        deeds = (*good[:at], deed, *good[at:])
                        for whole in ((outer, deeds), (outer, (("go", "t", 2), (inner, deeds), ("go", "t", 1))),
                                      (outer, ((inner, (("go", "t", 2), (outer, deeds))),))):
                            self.compare([("begin", "t", ("x",), ASK), ("go", "t", 1), whole, ("go", "t", 2)])

    def compare(self, deeds, program=(COUNT, LOOP)):
        shelf, plain = Shelf(program), PlainShelf(program)
        for deed in deeds:
            self.assertEqual(outcome(shelf, deed), outcome(plain, deed), deed)
            self.assertEqual(shelf.inside(), 0)
            self.assertEqual(tuple(shelf.relation(name) for name in shelf.names()), plain.program)
            self.assertEqual([(title, shelf.turns(title)) for title in shelf.titles()],
                             [(title, turns) for title, question, turns in plain.searches])
            self.assertEqual([shelf.open_ones(title) for title in shelf.titles()],
                             [len(replayed(question, turns)) for title, question, turns in plain.searches])
            self.assertEqual((shelf.log(), len(shelf)), (tuple(plain.log), len(plain.searches)))
        return shelf

    def test_by_chance(self):
        for seed in range(250):
            rng = Random(seed)
            self.compare([self.deed(rng, 3) for _ in range(12)])

    def deed(self, rng, deep):
        word = rng.choice(("put", "drop", "begin", "begin", "go", "go", "go", "end", "none") + ("some", "all") * 3)
        title = rng.choice(("s", "t", "u", "v"))
        relations = (COUNT, LOOP, NIL, EVEN, ODD, TRUE, ("count", ("x",), ("same", X, "new")))
        if word in ("some", "all"):
            return (word, tuple(self.deed(rng, deep - 1) for _ in range(rng.randrange(5))) if deep > 1 else ())
        if word == "put":
            return (word, tuple(rng.choice(relations) for _ in range(rng.randrange(1, 3))))
        if word == "drop":
            return (word, rng.choice(relations)[0])
        if word == "begin":
            return (word, title, ("x",), rng.choice((ASK, ("call", "nil", (X,)), ("call", "even", (X,)), ("same", X, 1), 5)))
        if word == "go":
            return (word, title, rng.randrange(4))
        return (word, title) if word == "end" else rng.choice((None, ["go", "t", 1], ("go", "t", -1), ("all", 5)))

    def test_deeds_far_within_one_another(self):
        for words in (("some",), ("all",), ("some", "all")):
            shelf = Shelf((COUNT,))
            shelf.do(("begin", "t", ("x",), ASK))
            deed, bad = ("go", "t", 1), ("some", (("go", "t", 1), ("drop", "none")))
            for at in range(200):
                deed, bad = (words[at % len(words)], (deed,)), (words[at % len(words)], (bad,))
            told = shelf.do(deed)
            for _ in range(200):
                told, = told
            self.assertEqual(told, Search((COUNT,), ("x",), ASK).take())
            turns = shelf.turns("t")
            with self.assertRaises(Missing):
                shelf.do(bad)
            self.assertEqual(shelf.turns("t") == turns, "all" in words)
            self.assertEqual((shelf.inside(), len(shelf.log())), (0, 2 + 402 + 2 * 203))

    def test_three_hundred_deeds(self):
        shelf = Shelf((COUNT, LINK))
        shelf.do(("begin", "t", ("x", "y"), ("call", "link", (X, Y))))
        for _ in range(99):
            shelf.do(("all", (("go", "t", 0), ("put", (NIL,)))))
            shelf.do(("drop", "nil"))
        self.assertEqual(len(shelf.log()), 2 + 99 * 8)
        self.assertEqual(shelf.turns("t"), 0)


class Logs(Case):
    def test_also_where_it_was_refused(self):
        shelf = Shelf()
        for deed in (("drop", "nil"), ("go", "t", 1), ("end", "t"), ("begin", "t", (), 1), ("put", (ODD,))):
            with self.assertRaises(REFUSALS):
                shelf.do(deed)
            self.assertEqual(shelf.log()[-2:], ((deed[0], True), (deed[0], False)))
            self.assertEqual(shelf.inside(), 0)
        self.assertEqual(len(shelf.log()), 10)

    def test_an_all_takes_none_back(self):
        shelf = Shelf()
        with self.assertRaises(Missing):
            shelf.do(("all", (("put", (NIL,)), ("some", (("drop", "nil"), ("drop", "nil"))))))
        self.assertEqual(shelf.log(), (
            ("all", True), ("put", True), ("put", False), ("some", True), ("drop", True), ("drop", False), ("drop", True),
            ("drop", False), ("some", False), ("all", False)))
        self.assertEqual((shelf.names(), shelf.inside()), ((), 0))
        self.assertIsInstance(shelf.log(), tuple)


class Equal(unittest.TestCase):
    def made(self, *deeds, program=(COUNT, LOOP)):
        shelf = Shelf(program)
        for deed in deeds:
            outcome(shelf, deed)
        return shelf

    def test_by_whatever_deeds(self):
        begin = ("begin", "t", ("x",), ASK)
        same = [
            self.made(begin, ("go", "t", 2)),
            self.made(begin, ("go", "t", 1), ("go", "t", 0), ("go", "t", 1)),
            self.made(("all", (begin, ("go", "t", 2))), ("all", (("go", "t", 1), ("drop", "none")))),
            self.made(("put", (COUNT,)), begin, ("begin", "u", (), ("both", ())), ("end", "u"), ("go", "t", 2)),
            self.made(("put", (COUNT, LOOP)), begin, ("go", "t", 2), program=()),
            self.made(("put", (LOOP,)), ("put", (COUNT,)), begin, ("go", "t", 2), ("go", "u", 1), None, program=()),
        ]
        for one in same:
            for other in same:
                self.assertTrue(one == other)
                self.assertFalse(one != other)
        self.assertEqual(len({shelf.log() for shelf in same}), len(same))

    def test_such_as_are_not(self):
        begin = ("begin", "t", ("x",), ASK)
        unlike = [
            self.made(), self.made(program=()), self.made(program=(COUNT,)), self.made(begin), self.made(begin, ("go", "t", 1)),
            self.made(begin, ("go", "t", 2)), self.made(("begin", "u", ("x",), ASK)),
            self.made(("begin", "t", ("y",), ("call", "count", (Y,)))), self.made(("begin", "t", ("x", "y"), ASK)),
            self.made(begin, ("begin", "u", ("x",), ASK)), self.made(("begin", "u", ("x",), ASK), begin),
            # The same program by now, but another one at the Search's beginning.
            self.made(begin, ("put", (LOOP,)), program=(COUNT,)),
            self.made(("drop", "count"), ("put", (("count", ("x",), ("both", ())),)), begin,
                      ("drop", "count"), ("put", (COUNT,))),
        ]
        for at, one in enumerate(unlike):
            for other in range(len(unlike)):
                self.assertEqual(one == unlike[other], at == other, (at, other))
            self.assertFalse(one == 1)
            self.assertFalse(one is None)
            self.assertTrue(one != "shelf")

    def test_the_order_of_searches_counts(self):
        one = self.made(("begin", "t", (), ("both", ())), ("begin", "u", (), ("both", ())))
        other = self.made(("begin", "u", (), ("both", ())), ("begin", "t", (), ("both", ())))
        self.assertFalse(one == other)
        other.do(("end", "u"))
        other.do(("begin", "u", (), ("both", ())))
        self.assertTrue(one == other)

    def test_no_two_share_anything(self):
        one, other = Shelf((COUNT,)), Shelf((COUNT,))
        for shelf in (one, other):
            shelf.do(("begin", "t", ("x",), ASK))
        one.do(("go", "t", 5))
        one.do(("put", (NIL,)))
        self.assertEqual((other.turns("t"), other.names(), len(other.log())), (0, ("count",), 2))
        self.assertEqual(other.do(("go", "t", 2)), Search((COUNT,), ("x",), ASK).take(2))


class Spoilt(Case):
    def test_spoilt_at_any_place(self):
        deeds = [
            ("put", (("new", ("x", "y"), ("both", (("same", X, (1, Y)), ("call", "count", (X,))))),)), ("drop", "loop"),
            ("begin", "u", ("x",), ASK), ("go", "t", 2), ("end", "t"), ("some", (("go", "t", 1),)), ("all", (("end", "t"),)),
        ]
        told = {}
        for deed in deeds:
            for thing in spoilt(deed):
                shelf, plain = self.pair()
                got = outcome(shelf, thing)
                self.assertEqual(repr(got), repr(outcome(plain, thing)), thing)
                self.assertEqual(shelf.log(), tuple(plain.log))
                told[got[0]] = told.get(got[0], 0) + 1
        self.assertTrue(min(told.values()) > 20, told)

    def pair(self):
        shelf, plain = Shelf((COUNT, LOOP)), PlainShelf((COUNT, LOOP))
        for one in (shelf, plain):
            one.do(("begin", "t", ("x",), ASK))
            one.do(("go", "t", 1))
        return shelf, plain


if __name__ == "__main__":
    unittest.main()
