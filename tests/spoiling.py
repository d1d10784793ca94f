"""Things made wrong at some place, and every place of a thing."""

OTHERS = [None, True, False, 0, -1, 7, "", "a", "odd", "?", "given", (), (0,), ("?", 0), [], {}, [0], {"a": 1}]


def inside(thing):
    """The parts of a tuple, a list or a dict's worths, each with a way to put another thing in its place."""
    if isinstance(thing, (tuple, list)):
        for at, part in enumerate(thing):
            def put(other, at=at):
                return type(thing)([*thing[:at], other, *thing[at + 1:]])
            yield part, put


def everywhere(thing):
    """The thing and everything in it, each with a way to put another thing in its place."""
    yield thing, lambda other: other
    for part, put in inside(thing):
        for deeper, put_deeper in everywhere(part):
            yield deeper, lambda other, put=put, put_deeper=put_deeper: put(put_deeper(other))


def changes(part):
    """Other things that may stand in the place of a part."""
    if isinstance(part, bool):
        yield int(part)
    elif isinstance(part, int):
        yield from (part + 1, part - 1, -part - 1, str(part), (part,), [part])
        yield from (flag for flag in (True, False) if flag == part)
    elif isinstance(part, str):
        yield from (part + "x", part[:-1], part.upper(), part + " ", (part,), [part])
    elif isinstance(part, tuple):
        yield list(part)
        yield (part,)
        yield (*part, 0)
        yield (*part, ())
        for at in range(len(part)):
            yield part[:at] + part[at + 1:]
            yield part[:at + 1] + part[at:]
        for at in range(len(part) - 1):
            yield (*part[:at], part[at + 1], part[at], *part[at + 2:])


def spoilt(thing, others=OTHERS):
    """The thing changed at each of its places, in several ways; some of these may still be right."""
    for part, put in everywhere(thing):
        for other in [*changes(part), *others]:
            yield put(other)


def spoilt_twice(thing, rng, many):
    """The thing changed at two places, picked by chance, so many times."""
    for _ in range(many):
        once = picked(thing, rng)
        yield picked(once, rng)


def picked(thing, rng):
    part, put = rng.choice(list(everywhere(thing)))
    return put(rng.choice([*changes(part), *OTHERS]))


# Things of any kind, within the bounds of "of anything".
def deep_tuple(deep, leaf=()):
    for _ in range(deep):
        leaf = (leaf,)
    return leaf


def deep_list(deep):
    thing = []
    for _ in range(deep - 1):
        thing = [thing]
    return thing


def deep_pair(deep, leaf):
    for _ in range(deep - 1):
        leaf = (leaf, leaf) if deep < 12 else (leaf, ())
    return leaf


ANYTHING = [
    None, True, False, 0, 1, -1, 10 ** 39, -(10 ** 39), "", "a", "same", "?", "\n", "~" * 4000, (), [], {},
    (None,), (True,), ((),), ([],), ({},), [()], [[]], {"a": []}, {1: {2: 3}}, ("?", 0), ("?", "x"), ("?", None),
    (0, 0), ((0, 0),), ((0, 0), (1, 1)), (("given",),), ("given",), (("same", 1, 1),), ("same", 1, 1),
    (("a", (), ("both", ())),), ("both", ()), ("both", (("both", ()),)), ("either", [("both", ())]),
    ("fresh", ("x",), ("same", ("?", "x"), 1)), ("call", "a", ()), ("ring", (0,)), (("ring", (0,)),),
    deep_tuple(59), deep_tuple(59, None), deep_list(60), deep_pair(59, 1), deep_pair(59, None), deep_pair(10, "?"),
    tuple(range(4999)), [0] * 4999, ((),) * 4999, {n: n for n in range(2000)}, (("given",),) * 2400,
    tuple((n, n) for n in range(1600)), (("turn", 0),) * 1600, tuple(("both", ()) for n in range(1600)),
    ("same",) * 4000, ("both", ("both",) * 4000), ("fresh", ("x",) * 4000, ("both", ())), {"?": 0, "n": ("?", 0)},
    ([], {}, [[]]), ([1], 2), ({}, {}), (1, [2]), (("a", [], {}),), ([("a", 1)], ("b", {})),
]
