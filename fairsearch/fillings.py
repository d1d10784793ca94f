"""Fillings: terms for unknowns, and the one by which two terms become alike."""

from fairsearch.classes import classes_of, ordered
from fairsearch.terms import is_term, is_tuple_of, is_unknown, is_whole, unknowns_of, with_terms


def is_filling(thing):
    if not isinstance(thing, tuple) or not all([is_row(row) for row in thing]):
        return False
    numbers = [number for number, term in thing]
    if not all([one < other for one, other in zip(numbers, numbers[1:])]):
        return False
    filled = {number: True for number in numbers}
    return not any([number in filled for number in unknowns_of([term for number, term in thing])])


def is_row(thing):
    if not is_tuple_of(thing, 2):
        return False
    number, term = thing
    if not is_whole(number) or number < 0 or not is_term(term):
        return False
    return not is_unknown(term) or term[1] < number


def put_in(term, filling):
    """The term with the rows' terms in the places of their unknowns, all at once."""
    return with_terms(term, dict(filling))


def alike(one, other, filling=()):
    """The one filling by which the two are the same and the handed one holds, or None."""
    added = least_filling(put_in(one, filling), put_in(other, filling))
    return None if added is None else both_fillings(filling, added)


def least_filling(one, other):
    """The rows, in no order, by which the two are the same, and nothing else is; None where nothing does so."""
    classes = classes_of(one, other)
    if classes.clash != ():
        return None
    nodes = classes.body_by_number()
    bodies = {number: classes.nodes.built[nodes[number]] for number in nodes}
    order, left = ordered(bodies)
    if left:
        return None
    least = classes.least_by_number()
    table = {number: ("?", least[number]) for number in least}
    for number in order:
        table[number] = with_terms(bodies[number], table)
    return [(number, table[number]) for number in table if table[number] != ("?", number)]


def both_fillings(filling, added):
    """The filling that says what both say, where the unknowns of the added rows are none of the filling's numbers."""
    table = dict(added)
    rows = [(number, with_terms(term, table)) for number, term in filling]
    return tuple(sorted([*rows, *added], key=lambda row: row[0]))
