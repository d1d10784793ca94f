"""Terms by numbers: the same term has the same number, however often and however great it comes."""

from fairsearch.terms import is_marked, parted


class Nodes:
    """A node is the number of a term. What was added stays, and says nothing of what unknowns are."""

    def __init__(self):
        # Whole terms are no keys, as these may be deep: a pair goes by the nodes of its head and its rest.
        self.known = {}
        self.built = []
        self.halves = []
        self.sizes = []
        self.depths = []
        self.grounds = []

    def node_of(self, term):
        return self.node_with(term, {})

    def node_with(self, term, table):
        """The node of the term with the table's nodes in the places of those unknowns that have one there."""
        heads, end = parted(term)
        nodes = [self.node_with(head, table) for head in heads]
        node = self.leaf_node(end)
        if is_marked(end):
            node = table.get(end[1], node)
        for head in reversed(nodes):
            node = self.pair_node(head, node)
        return node

    def leaf_node(self, leaf):
        if leaf not in self.known:
            self.known[leaf] = self.new_node(leaf, ())
        return self.known[leaf]

    def pair_node(self, head, rest):
        halves = (head, rest)
        if halves not in self.known:
            self.known[halves] = self.new_node((self.built[head], self.built[rest]), halves)
        return self.known[halves]

    def new_node(self, term, halves):
        self.built.append(term)
        self.halves.append(halves)
        self.sizes.append(1 + sum([self.sizes[half] for half in halves]))
        self.depths.append(1 + max([self.depths[half] for half in halves], default=0))
        self.grounds.append(not is_marked(term) and all([self.grounds[half] for half in halves]))
        return len(self.built) - 1

    def is_pair_node(self, node):
        return self.halves[node] != ()

    def has_leaf(self, node, leaf):
        """Whether the leaf is a part of the node's term."""
        seen = {node: True}
        waiting = [node]
        while waiting:
            part = waiting.pop()
            if not self.is_pair_node(part) and self.built[part] == leaf:
                return True
            fresh = [half for half in self.halves[part] if half not in seen]
            seen.update({half: True for half in fresh})
            waiting.extend(fresh)
        return False
