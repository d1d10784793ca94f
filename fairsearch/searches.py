"""Searches: the answers to a question, round by round."""

from fairsearch.answers import shown_of
from fairsearch.branches import first_branch

TURNS = 200


class Search:
    def __init__(self, program, names, goal):
        self.question = (program, names, goal)
        # Those of this round that still are to have a turn, then those of the next one: so each is by its path.
        self.branches = [first_branch(program, names, goal)]
        self.had = 0
        self.last_round = 0

    def take(self, many=1, *, limit=TURNS):
        told = []
        had = 0
        while len(told) < many and had < limit and not self.ended():
            branch = self.turn()
            had += 1
            if branch.ending == "answer":
                told.append((branch.path, answer_of(branch, self.question[1])))
        return tuple(told)

    def turn(self):
        """Has the turn that is due; tells the branch behind it."""
        branch = self.branches.pop(0).turned()
        self.had += 1
        self.last_round = len(branch.path) + 1
        self.branches.extend(branch.all_parts())
        return branch

    def turns(self):
        return self.had

    def rounds(self):
        """The round of the last turn."""
        return self.last_round

    def ended(self):
        return self.branches == []

    def twin(self):
        """A Search that stands where this one does, and goes on by itself."""
        program, names, goal = self.question
        other = Search(program, names, goal)
        # No branch is changed by a turn, so these may be had by both.
        other.branches = list(self.branches)
        other.had = self.had
        other.last_round = self.last_round
        return other

    def __len__(self):
        return len(self.branches)


def answer_of(branch, names):
    """What is shown of a branch that ended with an answer, the names being its first unknowns."""
    return shown_of(branch.facts, [branch.facts.unknown_node(number) for number in range(len(names))])
