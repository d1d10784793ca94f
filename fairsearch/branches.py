"""Branches: the ways through a question, each with what is known on it, and the goals that are still to be done."""

from fairsearch.facts import Facts
from fairsearch.goals import relations_by_name, terms_in
from fairsearch.nodes import Nodes


class Branch:
    """Values of names go by nodes. Where it ends or is parted is told by `ending`, behind its run."""

    def __init__(self, relations, facts):
        self.relations = relations
        self.facts = facts
        self.path = ()
        # Each as (goal, values of its names, the goals behind it), so that parts of a branch share what they have.
        self.goals = ()
        self.many = 0
        self.asked = ()
        self.choices = []
        self.ending = ""

    def twin_with(self, facts):
        """A branch just like this one, but for what is known on it."""
        other = Branch(self.relations, facts)
        other.path = self.path
        other.goals = self.goals
        other.many = self.many
        other.asked = self.asked
        other.choices = self.choices
        return other

    def put_ahead(self, coming, known):
        """Puts goals, by these values of their names, ahead of all others."""
        for goal in reversed(coming):
            self.goals = (goal, known, self.goals)

    def new_unknowns(self, names):
        """By each name a new unknown, numbered behind those that the branch has had."""
        first = self.many
        self.many += len(names)
        return {name: self.facts.unknown_node(first + at) for at, name in enumerate(names)}

    def run(self):
        """Does goals till its turn ends; tells "answer", "over", or "parted", and has its choices then."""
        self.choices = []
        self.asked = ()
        self.ending = ""
        while self.ending == "" and self.goals != ():
            goal, known, self.goals = self.goals
            self.do_goal(goal, known)
        self.ending = self.ending or "answer"
        return self.ending

    def do_goal(self, goal, known):
        word = goal[0]
        if word == "both":
            self.put_ahead(goal[1], known)
        elif word == "fresh":
            own = self.new_unknowns(goal[1])
            self.put_ahead(goal[2:], {**known, **own})
        elif word == "either":
            self.part_into([(part, known) for part in goal[1]], ())
        elif word == "call":
            names, inner = self.relations[goal[1]]
            nodes = self.nodes_of(goal, known)
            self.part_into([(inner, dict(zip(names, nodes)))], (goal[1], nodes))
        elif not self.say_goal(goal, known):
            self.ending = "over"

    def part_into(self, choices, asked):
        self.choices = choices
        self.asked = asked
        self.ending = "over" if choices == [] else "parted"

    def nodes_of(self, goal, known):
        return [self.facts.nodes.node_with(term, known) for term in terms_in(goal)]

    def say_goal(self, goal, known):
        """Says a goal that has only terms, and perhaps an atom; tells whether it still may be so."""
        nodes = self.nodes_of(goal, known)
        if goal[0] == "same":
            return self.facts.same(nodes[0], nodes[1])
        if goal[0] == "unlike":
            return self.facts.unlike(nodes[0], nodes[1])
        if goal[0] == "number":
            return self.facts.number(nodes[0])
        if goal[0] == "word":
            return self.facts.word(nodes[0])
        return self.facts.absent(self.facts.nodes.leaf_node(goal[1]), nodes[0])

    def enter(self, at):
        """Becomes that part of itself."""
        goal, known = self.choices[at]
        self.path = (*self.path, at)
        self.put_ahead([goal], known)

    def all_parts(self):
        """The branches into which it is parted. They share what is known, so each has its turn as a twin."""
        parts = [self.twin_with(self.facts) for choice in self.choices]
        for at, part in enumerate(parts):
            part.enter(at)
        return parts

    def turned(self):
        """The branch behind its turn; this one stays as it is ahead of it."""
        other = self.twin_with(self.facts.twin())
        other.run()
        return other


def branch_of(program):
    """A branch without goals, of which nothing is known."""
    return Branch(relations_by_name(program), Facts(Nodes()))


def first_branch(program, names, goal):
    """The branch of a question, its names being the unknowns 0, 1, .."""
    branch = branch_of(program)
    branch.put_ahead([goal], branch.new_unknowns(names))
    return branch


def walk(branch, path):
    """Has the branch go along a path alone; tells how it ends there, "parted" where it doesn't, None without such one.

    A path is a tuple of numbers from 0.
    """
    branch.run()
    for at in path:
        if at >= len(branch.choices):
            return None
        branch.enter(at)
        branch.run()
    return branch.ending
