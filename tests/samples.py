"""Terms and other things that several tests hand in."""

LONG = int("1234567890" * 4)


def unknown(number):
    return ("?", number)


def listed(*terms, end=()):
    for term in reversed(terms):
        end = (term, end)
    return end


def parts(term):
    if isinstance(term, tuple) and len(term) == 2 and term[0] != "?":
        return 1 + parts(term[0]) + parts(term[1])
    return 1


def depth(term):
    if isinstance(term, tuple) and len(term) == 2 and term[0] != "?":
        return 1 + max(depth(term[0]), depth(term[1]))
    return 1


def grown(many, deep, leaf_at):
    """A term of at most so many parts, just so many within one another, its leaves leaf_at(0), leaf_at(1), .."""
    seen = [0]
    left = [(many - 1) // 2]

    def leaf():
        seen[0] += 1
        return leaf_at(seen[0] - 1)

    def branch(room):
        if room <= 1 or left[0] == 0:
            return leaf()
        left[0] -= 1
        rest = branch(room - 1)
        return (branch(room - 1), rest)

    return branch(deep)


def heads_within(deep, leaf):
    """A term whose heads stand in one another, so many with the leaf."""
    term = leaf
    for _ in range(deep - 1):
        term = (term, ())
    return term


LEAVES = [0, 7, -7, LONG, -LONG, "a", "z", "word", "abcdefgh", (), unknown(0), unknown(5), unknown(LONG)]

PAIRS = [
    (1, 2),
    ("a", ()),
    ((), ()),
    (unknown(0), unknown(0)),
    listed(1, 2, 3),
    listed(1, listed("a"), end=unknown(0)),
    listed((1, 2), ((), 3), end=4),
    listed(listed(listed(unknown(9)))),
    (("a", "b"), ("c", ("d", unknown(3)))),
    listed((), (), ()),
    listed(-1, LONG, -LONG, end="end"),
]

TERMS = LEAVES + PAIRS

NO_WORDS = [
    "", "abcdefghi", "A", "aB", "Word", "a1", "1", "0", "-1", "a b", " a", "a ", " ", "a\n", "\na", "\n",
    "?", "?0", "()", "a-b", "a_b", "a.", "`", "{", "@", "~", "a" * 4000,
]

NO_TERMS = NO_WORDS + [
    True, False, None,
    [], [1], [1, 2], ["?", 0], {}, {1: 2}, {"a": ()},
    (1,), ("a",), ((),), (1, 2, 3), ("?", 0, 1), ("?",), (1, (2,)),
    ("?", -1), ("?", -LONG), ("?", True), ("?", False), ("?", None), ("?", "a"), ("?", "0"), ("?", ""),
    ("?", ()), ("?", ("?", 0)), ("?", [0]), (("?", 0), "?"), (0, "?"),
]


def places(thing):
    """The thing as a part of terms, at several depths."""
    yield (thing, ())
    yield (1, thing)
    yield listed(1, unknown(0), thing, "a")
    yield listed(1, unknown(0), "a", end=thing)
    yield ((("a", (thing, "b")), ()), unknown(2))
    yield heads_within(20, (1, thing))
    yield listed(*range(25), end=(thing, ()))
