"""What has to be the same so that terms are: their parts, put together in classes."""

from fairsearch.nodes import Nodes
from fairsearch.terms import is_unknown, unknowns_in


class Classes:
    """The classes of nodes that have to be the same; at first each is by itself."""

    def __init__(self, nodes):
        self.nodes = nodes
        self.above = {}
        self.bodies = {}
        # Which nodes were put together, in order, and why: a paper is written along these.
        self.links = []
        self.clash = ()

    def make_same(self, one, other):
        """Puts the two together and all that then has to be, till a clash, if there is one."""
        waiting = [(one, other, ("given",))]
        while waiting and self.clash == ():
            first, second, why = waiting.pop()
            top, under = self.top_of(first), self.top_of(second)
            if top != under:
                self.links.append((first, second, why))
                waiting.extend(self.put_together(top, under))

    def top_of(self, node):
        """The node that stands for the class."""
        top = node
        while top in self.above:
            top = self.above[top]
        # Shorter ways up, so that a long row of classes isn't walked again and again.
        while node != top:
            following = self.above[node]
            self.above[node] = top
            node = following
        return top

    def body_of(self, top):
        """A node of the class that is no unknown, or None."""
        if top not in self.bodies:
            self.bodies[top] = None if is_unknown(self.nodes.built[top]) else top
        return self.bodies[top]

    def put_together(self, top, under):
        """Makes one class of two; tells which nodes have to be the same then, and why, or notes a clash."""
        body, other = self.body_of(top), self.body_of(under)
        self.above[under] = top
        if body is None or other is None:
            self.bodies[top] = other if body is None else body
            return []
        if not self.nodes.is_pair_node(body) or not self.nodes.is_pair_node(other):
            self.clash = (body, other)
            return []
        head, rest = self.nodes.halves[body]
        other_head, other_rest = self.nodes.halves[other]
        return [(head, other_head, ("heads", body, other)), (rest, other_rest, ("rests", body, other))]

    def unknown_node(self, number):
        return self.nodes.leaf_node(("?", number))

    def numbered_tops(self):
        """The number of each unknown and the top of its class, by numbers."""
        numbers = sorted([leaf[1] for leaf in self.nodes.known if is_unknown(leaf)])
        return [(number, self.top_of(self.unknown_node(number))) for number in numbers]

    def body_by_number(self):
        """By the number of each unknown that has one the body of its class."""
        found = {number: self.body_of(top) for number, top in self.numbered_tops()}
        return {number: found[number] for number in found if found[number] is not None}

    def least_by_number(self):
        """By the number of each unknown whose class has no body the least one of its class."""
        least = {}
        tops = self.numbered_tops()
        for number, top in tops:
            least.setdefault(top, number)
        return {number: least[top] for number, top in tops if self.body_of(top) is None}


def classes_of(one, other):
    """The classes of the parts of two terms that have to be the same."""
    classes = Classes(Nodes())
    classes.make_same(classes.nodes.node_of(one), classes.nodes.node_of(other))
    return classes


def ordered(bodies):
    """The numbers of unknowns, by which these are terms, each behind those that its term has.

    Those that can't be ordered are told too, by each those of its term that have terms: among these are rings.
    """
    left = {number: [part for part in unknowns_in(bodies[number]) if part in bodies] for number in bodies}
    order = []
    ready = [number for number in left if left[number] == []]
    while ready:
        order.extend(ready)
        for number in ready:
            del left[number]
        left = {number: [part for part in left[number] if part in left] for number in left}
        ready = [number for number in left if left[number] == []]
    return order, left
