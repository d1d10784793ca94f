"""Terms filled by what is known, their unknowns numbered anew."""


class Naming:
    """Numbers for unknowns, from the first one on, as they come in the terms that are asked for."""

    def __init__(self, facts, first):
        self.facts = facts
        self.first = first
        # By the top of each class without a body its number, by that of each class its node.
        self.numbers = {}
        self.named = {}

    def term_for(self, node):
        return self.facts.nodes.built[self.node_for(node)]

    def node_for(self, node):
        """The node of the node's term, filled and numbered anew."""
        # A list of what is still to be looked at: the depth of a term never becomes that of calls.
        top = self.facts.top_of(node)
        waiting = [top]
        while waiting:
            left = [part for part in self.facts.tops_below(waiting[-1]) if part not in self.named]
            if left != []:
                waiting.append(left[0])
            else:
                self.name_class(waiting.pop())
        return self.named[top]

    def name_class(self, top):
        """Names a class all of whose parts are named."""
        nodes = self.facts.nodes
        body = self.facts.body_of(top)
        if body is None:
            number = self.numbers.setdefault(top, self.first + len(self.numbers))
            self.named[top] = nodes.leaf_node(("?", number))
        elif nodes.is_pair_node(body):
            head, rest = [self.named[part] for part in self.facts.tops_below(top)]
            self.named[top] = nodes.pair_node(head, rest)
        else:
            self.named[top] = body
