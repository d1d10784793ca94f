"""Programs and goals that several tests hand in, and goals by chance."""

from making import Maker
from samples import listed


def name(word):
    return ("?", word)


A, D, H, L, R, S, X, Y, Z = (name(word) for word in "adhlrsxyz")

APPEND = ("append", ("l", "s", "r"), ("either", (
    ("both", (("same", L, ()), ("same", S, R))),
    ("fresh", ("a", "d", "x"), ("both", (
        ("same", L, (A, D)), ("same", R, (A, X)), ("call", "append", (D, S, X)),
    ))),
)))

EVEN = ("even", ("x",), ("either", (
    ("same", X, ()),
    ("fresh", ("d",), ("both", (("same", X, ("one", D)), ("call", "odd", (D,))))),
)))

FREE = ("free", ("x", "l"), ("both", (("word", X), ("absent", "no", L), ("unlike", X, L))))

MEMBER = ("member", ("x", "l"), ("fresh", ("a", "d"), ("both", (
    ("same", L, (A, D)), ("either", (("same", X, A), ("both", (("unlike", X, A), ("call", "member", (X, D)))))),
))))

NEVER = ("never", (), ("either", ()))

ODD = ("odd", ("x",), ("fresh", ("d",), ("both", (("same", X, ("one", D)), ("call", "even", (D,))))))

TRUE = ("true", (), ("both", ()))

TWICE = ("twice", ("x", "y"), ("fresh", ("z",), ("both", (
    ("same", Y, (X, Z)), ("same", Z, X), ("fresh", ("x", "z"), ("both", (("same", (X, Z), (1, 2)), ("same", Y, Y)))),
))))

PROGRAM = (APPEND, EVEN, FREE, MEMBER, NEVER, ODD, TRUE, TWICE)

GOALS = [
    ("same", X, 1), ("same", (1, X), (Y, ())), ("same", 1, 1), ("same", (), X), ("unlike", X, Y),
    ("unlike", listed(1, X), "a"), ("number", X), ("number", (X, Y)), ("number", 5), ("word", "a"), ("word", Y),
    ("absent", 1, X), ("absent", "a", listed(X, Y)), ("absent", -5, ()), ("both", ()), ("either", ()),
    ("both", (("same", X, 1),)), ("either", (("same", X, 1), ("same", X, 2), ("word", Y))),
    ("both", (("both", ()), ("either", (("both", ()),)))),
    ("fresh", ("a",), ("same", A, X)), ("fresh", ("a", "d"), ("both", (("same", A, D), ("number", Y)))),
    ("fresh", ("x",), ("same", X, Y)), ("fresh", ("x", "y"), ("fresh", ("x",), ("same", X, Y))),
    ("fresh", ("a",), ("both", ())), ("call", "true", ()), ("call", "never", ()), ("call", "even", (X,)),
    ("call", "append", (X, listed(1, Y), ())), ("call", "member", (("a", X), (Y, Y))),
    ("both", (("fresh", ("a",), ("call", "member", (A, X))), ("either", (("word", X), ("call", "odd", (Y,)))))),
    ("fresh", ("a",), ("either", (("fresh", ("d",), ("both", (("same", (A, D), X), ("call", "twice", (A, D))))),
                                  ("absent", 7, (A, Y))))),
]


class GoalMaker(Maker):
    """Right goals by a program, by chance."""

    def __init__(self, seed, program):
        super().__init__(seed)
        self.program = program

    def open_term(self, names, deep=3):
        if deep <= 1 or self.rng.random() < 0.5:
            if names and self.rng.random() < 0.6:
                return name(self.rng.choice(names))
            return self.rng.choice((0, 1, -3, 10, "a", "one", ()))
        return (self.open_term(names, deep - 1), self.open_term(names, deep - 1))

    def goal(self, names, deep=4):
        words = ["same", "unlike", "number", "word", "absent", "both", "either"]
        words += ["fresh"] * 2 + ["both", "either"] * 2 if deep > 1 else []
        words += ["call"] * 2 if self.program else []
        return self.made(self.rng.choice(words), names, deep)

    def made(self, word, names, deep):
        if word in ("same", "unlike"):
            return (word, self.open_term(names), self.open_term(names))
        if word in ("number", "word"):
            return (word, self.open_term(names, 2))
        if word == "absent":
            return (word, self.rng.choice((1, -3, "a", "one")), self.open_term(names))
        if word in ("both", "either"):
            many = self.rng.randrange(4) if deep > 1 else 0
            return (word, tuple(self.goal(names, deep - 1) for _ in range(many)))
        if word == "fresh":
            new = tuple(self.rng.sample(("a", "b", "x", "y", "longname"), 1 + self.rng.randrange(3)))
            return (word, new, self.goal(tuple(sorted({*names, *new})), deep - 1))
        relation = self.rng.choice(self.program)
        return (word, relation[0], tuple(self.open_term(names) for _ in relation[1]))


# Relations that a Search is asked about: joining and parting lists, counting by lists, links with rings, no end.
COUNT = ("count", ("x",), ("either", (
    ("same", X, ()),
    ("fresh", ("d",), ("both", (("same", X, ("one", D)), ("call", "count", (D,))))),
)))

LINK = ("link", ("x", "y"), ("either", (
    ("same", (X, Y), ("a", "b")), ("same", (X, Y), ("b", "c")), ("same", (X, Y), ("c", "a")), ("same", (X, Y), ("c", "d")),
)))

LOOP = ("loop", ("x",), ("call", "loop", (X,)))

PLUS = ("plus", ("x", "y", "z"), ("either", (
    ("both", (("same", X, ()), ("same", Y, Z))),
    ("fresh", ("a", "d"), ("both", (
        ("same", X, ("one", A)), ("same", Z, ("one", D)), ("call", "plus", (A, Y, D)),
    ))),
)))

UPWARD = ("upward", ("x",), ("fresh", ("d",), ("both", (("same", X, ("one", D)), ("call", "upward", (D,))))))

WALK = ("walk", ("x", "y"), ("either", (
    ("call", "link", (X, Y)),
    ("fresh", ("z",), ("both", (("call", "link", (X, Z)), ("call", "walk", (Z, Y))))),
)))

WORLD = (APPEND, COUNT, LINK, LOOP, MEMBER, PLUS, UPWARD, WALK)

# Names and a goal, each by WORLD; those that never end and those that do.
ENDLESS = [
    (("x",), ("call", "count", (X,))),
    (("x",), ("call", "loop", (X,))),
    (("x",), ("call", "upward", (X,))),
    (("x",), ("either", (("call", "upward", (X,)), ("same", X, 1), ("call", "count", (X,)), ("call", "loop", (X,))))),
    (("x", "y"), ("call", "append", (X, listed(1), Y))),
    (("x", "y"), ("call", "walk", (X, Y))),
    (("x",), ("call", "walk", ("a", X))),
    (("x", "y"), ("call", "member", (X, Y))),
    (("x", "y"), ("both", (("call", "member", (X, Y)), ("call", "member", (1, Y)), ("word", X)))),
    (("x", "y"), ("fresh", ("z",), ("both", (("call", "count", (Z,)), ("call", "append", (X, Y, Z)))))),
    (("x", "y", "z"), ("call", "plus", (X, Y, Z))),
]

ENDING = [
    ((), ("both", ())),
    ((), ("either", ())),
    (("x",), ("both", ())),
    (("x",), ("same", X, 1)),
    (("x",), ("both", (("same", X, 1), ("same", X, 2)))),
    (("x",), ("either", (("same", X, 1), ("either", ()), ("same", X, (1, X)), ("both", ())))),
    (("x", "y"), ("call", "append", (X, Y, listed(1, "a", 2)))),
    (("x",), ("call", "append", (listed(1, 2), listed(3), X))),
    (("x", "y"), ("call", "link", (X, Y))),
    (("x", "y"), ("both", (("call", "link", (X, Y)), ("call", "link", (Y, X))))),
    (("x", "y"), ("fresh", ("z",), ("both", (("call", "link", (X, Z)), ("call", "link", (Z, Y)))))),
    (("x",), ("call", "member", (X, listed(1, 2, "a", 2)))),
    (("x", "y"), ("call", "member", (X, listed(1, Y, "a")))),
    (("x", "y"), ("both", (("call", "plus", (X, Y, listed("one", "one", "one"))), ("unlike", X, Y)))),
    (("x",), ("call", "plus", (listed("one"), listed("one"), X))),
    (("x", "y", "z"), ("both", (("unlike", X, Y), ("unlike", (X, Z), (Y, 1)), ("number", Y), ("absent", "a", (X, Z))))),
    (("x", "y"), ("either", (("both", (("number", X), ("word", X))), ("both", (("number", X), ("unlike", X, "a")))))),
]


def random_question(seed):
    """A program of three relations and a goal, by chance."""
    names = {"p": ("x", "y"), "q": ("x",), "r": ()}
    stub = tuple((name, names[name], ("both", ())) for name in sorted(names))
    program = tuple((name, names[name], GoalMaker(f"{seed}{name}", stub).goal(names[name], 4)) for name in sorted(names))
    return program, ("x", "y"), GoalMaker(seed, program).goal(("x", "y"), 4)
