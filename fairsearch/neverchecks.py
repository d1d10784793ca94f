"""Reads papers that nothing makes two terms alike, whoever wrote them."""

from fairsearch.terms import is_pair, is_tuple_of, is_unknown, is_whole, unknowns_in


def never_holds(one, other, thing):
    if not isinstance(thing, tuple) or thing == ():
        return False
    shown = []
    for step in thing[:-1]:
        equation = equation_of(step, shown, (one, other))
        if equation is None:
            return False
        shown.append(equation)
    if is_ring(thing[-1], shown):
        return True
    equation = equation_of(thing[-1], shown, (one, other))
    return equation is not None and is_clash(equation)


def are_earlier(numbers, shown):
    return all([is_whole(number) and 0 <= number < len(shown) for number in numbers])


def equation_of(step, shown, given):
    """What the step shows, or None where it is no step that shows an equation."""
    if step == ("given",):
        return given
    if not isinstance(step, tuple) or not are_earlier(step[1:], shown):
        return None
    used = [shown[number] for number in step[1:]]
    if len(used) == 1:
        return equation_by_one(step[0], used[0])
    if len(used) == 2 and step[0] == "through" and used[0][1] == used[1][0]:
        return (used[0][0], used[1][1])
    return None


def equation_by_one(word, equation):
    one, other = equation
    if word == "turn":
        return (other, one)
    if not is_pair(one) or not is_pair(other):
        return None
    if word == "heads":
        return (one[0], other[0])
    if word == "rests":
        return (one[1], other[1])
    return None


def is_clash(equation):
    one, other = equation
    if is_unknown(one) or is_unknown(other) or one == other:
        return False
    return not is_pair(one) or not is_pair(other)


def is_ring(step, shown):
    if not is_tuple_of(step, 2) or step[0] != "ring":
        return False
    numbers = step[1]
    if not isinstance(numbers, tuple) or numbers == () or not are_earlier(numbers, shown):
        return False
    used = {number: shown[number] for number in numbers}
    if not all([is_unknown(used[number][0]) and is_pair(used[number][1]) for number in used]):
        return False
    parts = {number: unknowns_in(used[number][1]) for number in used}
    following = numbers[1:] + numbers[:1]
    return all([used[after][0][1] in parts[number] for number, after in zip(numbers, following)])
