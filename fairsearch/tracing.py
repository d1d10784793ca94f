"""Traces along paths."""

from fairsearch.answers import shown_of
from fairsearch.branches import branch_of, walk
from fairsearch.goals import relations_by_name
from fairsearch.showing import covered


def trace_along(program, names, goal, path, values):
    """A trace of the goal by the values that has this path, or None."""
    branch = branch_of(program)
    nodes = [branch.facts.nodes.node_of(value) for value in values]
    branch.put_ahead([goal], dict(zip(names, nodes)))
    if walk(branch, path) != "answer":
        return None
    # The values being ground, all unknowns are those of fresh names, in the order in which these come.
    unknowns = [branch.facts.unknown_node(number) for number in range(branch.many)]
    return TraceWriter(program, path, covered(shown_of(branch.facts, unknowns))).trace_of(goal)


class TraceWriter:
    """Writes a trace along a path by the terms of the fresh names that come along it."""

    def __init__(self, program, path, terms):
        self.relations = relations_by_name(program)
        self.steps = list(path)[::-1]
        self.terms = list(terms)[::-1]
        self.made = []

    def trace_of(self, goal):
        # What is still to be done, goals and what is made of the traces of those in them: the depth of a trace
        # never becomes that of calls.
        waiting = [("goal", goal)]
        while waiting:
            word, thing = waiting.pop()
            if word == "goal":
                waiting.extend(self.begin(thing))
            elif word == "gather":
                self.gather(thing)
            else:
                self.made.append((*thing, self.made.pop()))
        return self.made[0]

    def begin(self, goal):
        """What is to be done for the goal's trace, the last of these first."""
        word = goal[0]
        if word == "both":
            return [("gather", len(goal[1])), *[("goal", part) for part in goal[1][::-1]]]
        if word == "either":
            at = self.steps.pop()
            return [("behind", (at,)), ("goal", goal[1][at])]
        if word == "fresh":
            terms = tuple([self.terms.pop() for name in goal[1]])
            return [("behind", (terms,)), ("goal", goal[2])]
        if word == "call":
            self.steps.pop()
            return [("behind", ()), ("goal", self.relations[goal[1]][1])]
        self.made.append(())
        return []

    def gather(self, many):
        """Makes one of the last traces, so many."""
        first = len(self.made) - many
        traces = tuple(self.made[first:])
        del self.made[first:]
        self.made.append(traces)
