"""Traces: why a goal holds of values; and the paths along which they go."""

from fairsearch.goals import relations_by_name
from fairsearch.nodes import Nodes
from fairsearch.terms import is_ground, is_term, is_tuple_of, is_whole, is_word


def trace_holds(program, names, goal, values, thing):
    checker = TraceChecker(program)
    # A list of what is still to be looked at: the depth of a trace never becomes that of calls.
    waiting = [(goal, checker.known_values(names, values), thing)]
    while waiting:
        part, known, trace = waiting.pop()
        inner = checker.traces_within(part, known, trace)
        if inner is None:
            return False
        waiting.extend(inner)
    return True


def is_place(thing, things):
    """Whether it is the number of one of the things."""
    return is_whole(thing) and 0 <= thing < len(things)


class TraceChecker:
    """Reads traces step by step. Values go by nodes, as through calls they may become great."""

    def __init__(self, program):
        self.relations = relations_by_name(program)
        self.nodes = Nodes()

    def known_values(self, names, values):
        return {name: self.nodes.node_of(term) for name, term in zip(names, values)}

    def traces_within(self, goal, known, trace):
        """A list of (goal, values, trace), all of which have to hold so that this does; None where this can't."""
        word = goal[0]
        if word == "both":
            return self.within_both(goal[1], known, trace)
        if word == "either":
            if not is_tuple_of(trace, 2) or not is_place(trace[0], goal[1]):
                return None
            return [(goal[1][trace[0]], known, trace[1])]
        if word == "fresh":
            return self.within_fresh(goal, known, trace)
        if word == "call":
            return self.within_call(goal, known, trace)
        return [] if trace == () and self.is_so(goal, known) else None

    def within_both(self, goals, known, trace):
        if not is_tuple_of(trace, len(goals)):
            return None
        return [(goal, known, part) for goal, part in zip(goals, trace)]

    def within_fresh(self, goal, known, trace):
        names = goal[1]
        if not is_tuple_of(trace, 2) or not is_tuple_of(trace[0], len(names)):
            return None
        if not all([is_term(term) and is_ground(term) for term in trace[0]]):
            return None
        own = self.known_values(names, trace[0])
        return [(goal[2], {**known, **own}, trace[1])]

    def within_call(self, goal, known, trace):
        if not is_tuple_of(trace, 1):
            return None
        names, inner = self.relations[goal[1]]
        nodes = [self.nodes.node_with(term, known) for term in goal[2]]
        return [(inner, dict(zip(names, nodes)), trace[0])]

    def is_so(self, goal, known):
        """Whether a goal that has only terms, and perhaps an atom, holds."""
        word = goal[0]
        node = self.nodes.node_with(goal[-1], known)
        if word == "absent":
            return not self.nodes.has_leaf(node, goal[1])
        if word == "number":
            return is_whole(self.nodes.built[node])
        if word == "word":
            return is_word(self.nodes.built[node])
        same = self.nodes.node_with(goal[1], known) == node
        return same if word == "same" else not same


def path_of(program, goal, trace):
    """For each either the number of its goal, for each call 0, as they come."""
    relations = relations_by_name(program)
    path = []
    waiting = [(goal, trace)]
    while waiting:
        part, inner = waiting.pop()
        word = part[0]
        if word == "both":
            waiting.extend(list(zip(part[1], inner))[::-1])
        elif word == "either":
            path.append(inner[0])
            waiting.append((part[1][inner[0]], inner[1]))
        elif word == "fresh":
            waiting.append((part[2], inner[1]))
        elif word == "call":
            path.append(0)
            waiting.append((relations[part[1]][1], inner[0]))
    return tuple(path)
