"""Reads papers of the end, whoever wrote them, along their own paths, without a Search."""

from fairsearch.branches import first_branch
from fairsearch.terms import is_tuple_of, is_whole


def end_holds(program, names, goal, thing):
    if not is_end_form(thing):
        return False
    # Each branch with those rows whose paths go through it: they have to tell of all its parts.
    waiting = [(first_branch(program, names, goal), thing)]
    while waiting:
        branch, rows = waiting.pop()
        branch = branch.turned()
        if branch.ending != "parted":
            if rows != ((branch.path, branch.ending),):
                return False
            continue
        groups = rows_by_part(rows, len(branch.path), len(branch.choices))
        if groups is None:
            return False
        waiting.extend(list(zip(branch.all_parts(), groups)))
    return True


def is_end_form(thing):
    """Whether it is a tuple of (path, word), rising by paths."""
    if not isinstance(thing, tuple) or not all([is_end_row(row) for row in thing]):
        return False
    paths = [path for path, word in thing]
    return all([one < other for one, other in zip(paths, paths[1:])])


def is_end_row(thing):
    if not is_tuple_of(thing, 2):
        return False
    return is_path(thing[0]) and isinstance(thing[1], str)


def is_path(thing):
    return isinstance(thing, tuple) and all([is_whole(at) and at >= 0 for at in thing])


def rows_by_part(rows, place, many):
    """The rows by the numbers that their paths have at this place, a list; None where not each part has some."""
    groups = {}
    for row in rows:
        if len(row[0]) <= place:
            return None
        groups.setdefault(row[0][place], []).append(row)
    if sorted(groups) != list(range(many)):
        return None
    return [tuple(groups[at]) for at in range(many)]
