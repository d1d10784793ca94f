"""Papers of the end: how each branch of a Search ends where all do."""

from fairsearch.errors import TooMany
from fairsearch.searches import TURNS, Search


def end_paper(program, names, goal, *, limit=TURNS):
    """Each branch that ends, by paths; TooMany where not all have ended behind so many turns."""
    search = Search(program, names, goal)
    ends = []
    while not search.ended():
        if search.turns() == limit:
            raise TooMany(limit)
        branch = search.turn()
        if branch.ending != "parted":
            ends.append((branch.path, branch.ending))
    return tuple(sorted(ends))
