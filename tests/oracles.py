"""Plain second ways to what the program tells, to be compared with it."""

from itertools import product

from samples import unknown


def is_unknown(term):
    return isinstance(term, tuple) and len(term) == 2 and term[0] == "?"


def is_pair(term):
    return isinstance(term, tuple) and len(term) == 2 and term[0] != "?"


def unknown_set(term):
    if is_unknown(term):
        return {term[1]}
    if is_pair(term):
        return unknown_set(term[0]) | unknown_set(term[1])
    return set()


def replace(term, table):
    if is_unknown(term):
        return table.get(term[1], term)
    if is_pair(term):
        return (replace(term[0], table), replace(term[1], table))
    return term


def parts_of(term):
    yield term
    if is_pair(term):
        yield from parts_of(term[0])
        yield from parts_of(term[1])


def has_part(term, part):
    return any(type(one) is type(part) and one == part for one in parts_of(term))


def solved(pairs):
    """The filling by which the two of each pair are the same, one equation after another, or None."""
    table = {}
    waiting = list(pairs)
    while waiting:
        one, other = waiting.pop(0)
        one, other = replace(one, table), replace(other, table)
        if one == other:
            continue
        if is_pair(one) and is_pair(other):
            waiting += [(one[0], other[0]), (one[1], other[1])]
            continue
        if not is_unknown(one) or is_unknown(other) and one[1] < other[1]:
            one, other = other, one
        if not is_unknown(one) or one[1] in unknown_set(other):
            return None
        table = {n: replace(term, {one[1]: other}) for n, term in table.items()}
        table[one[1]] = other
    return tuple(sorted(table.items(), key=lambda row: row[0]))


def all_tables(numbers, pool):
    numbers = sorted(numbers)
    for values in product(pool, repeat=len(numbers)):
        yield dict(zip(numbers, values))


def holds(pairs, table):
    return all(replace(one, table) == replace(other, table) for one, other in pairs)


def equations(filling):
    return [(unknown(n), term) for n, term in filling]


def is_number(term):
    return type(term) is int


def is_word(term):
    return type(term) is str


def so_said(saying, table):
    """Whether what was said to a Store is so by a world."""
    word, *told = saying
    terms = [replace(term, table) for term in told]
    if word == "same":
        return terms[0] == terms[1]
    if word == "unlike":
        return terms[0] != terms[1]
    if word == "number":
        return is_number(terms[0])
    if word == "word":
        return is_word(terms[0])
    return not has_part(terms[1], told[0])
