"""What is known of the unknowns of a branch: a Store to which more is said at little cost, however much was said."""

from fairsearch.classes import Classes
from fairsearch.limits import kind_of


class Facts(Classes):
    """Each saying changes it, and tells whether it still has a world; where it hasn't, it isn't asked any more.

    Terms go by nodes, and what is the same by classes, so that no term is ever written out.
    """

    def __init__(self, nodes):
        super().__init__(nodes)
        # By the tops of classes: the kind, and the nodes of the atoms that are absent.
        self.sorts = {}
        self.missing = {}
        # Two nodes that may not become the same, and still could, with a gap between them: while its classes stay as
        # they are, nothing more is to be asked.
        self.unlikes = []
        # The tops of the classes that were put together by the last saying.
        self.changed = {}

    def twin(self):
        other = Facts(self.nodes)
        other.above = dict(self.above)
        other.bodies = dict(self.bodies)
        other.sorts = dict(self.sorts)
        other.missing = dict(self.missing)
        other.unlikes = list(self.unlikes)
        return other

    def same(self, one, other):
        self.changed = {}
        self.make_same(one, other)
        tops = sorted(set([self.top_of(node) for node in self.changed]))
        if self.clash != () or self.has_ring(tops) or not all([self.kind_fits(top) for top in tops]):
            return False
        return all([self.absents_hold(top) for top in tops]) and self.unlikes_hold()

    def unlike(self, one, other):
        gap = self.gap_between(one, other)
        if gap != () and not self.is_lasting(gap):
            self.unlikes.append((one, other, gap))
        return gap != ()

    def number(self, node):
        return self.with_kind(node, "number")

    def word(self, node):
        return self.with_kind(node, "word")

    def with_kind(self, node, kind):
        top = self.top_of(node)
        return self.sorts.setdefault(top, kind) == kind and self.kind_fits(top)

    def absent(self, atom, node):
        """Says that the atom, a node too, is no part."""
        waiting = [node]
        while waiting:
            top = self.top_of(waiting.pop())
            atoms = self.missing.get(top, ())
            if atom in atoms:
                continue
            self.missing[top] = (*atoms, atom)
            body = self.body_of(top)
            if body == atom:
                return False
            waiting.extend([] if body is None else self.nodes.halves[body])
        return True

    def put_together(self, top, under):
        body = self.body_of(under)
        waiting = super().put_together(top, under)
        if body is not None and self.nodes.grounds[body]:
            self.bodies[top] = body
        self.changed[top] = True
        self.changed[under] = True
        if under in self.sorts and self.sorts.setdefault(top, self.sorts[under]) != self.sorts[under]:
            self.clash = (top, under)
        if under in self.missing:
            atoms = self.missing.get(top, ())
            self.missing[top] = (*atoms, *[atom for atom in self.missing[under] if atom not in atoms])
        return waiting

    def kind_fits(self, top):
        body = self.body_of(top)
        return top not in self.sorts or body is None or kind_of(self.nodes.built[body]) == self.sorts[top]

    def absents_hold(self, top):
        """Says of the parts of a class, which may be new, what is absent from it."""
        body = self.body_of(top)
        atoms = self.missing.get(top, ())
        if body is None or body in atoms:
            return body is None
        return all([self.absent(atom, half) for atom in atoms for half in self.nodes.halves[body]])

    def has_ring(self, tops):
        """Whether a class is a part of itself, these being the only ones through which one may have become so."""
        # By each class that was begun whether all below it is done: one that isn't stands above what is looked at.
        done = {}
        waiting = list(tops)
        while waiting:
            top = waiting[-1]
            if top in done:
                done[top] = True
                waiting.pop()
                continue
            done[top] = False
            below = [] if self.is_ground_class(top) else self.tops_below(top)
            if any([part in done and not done[part] for part in below]):
                return True
            waiting.extend([part for part in below if part not in done])
        return False

    def is_ground_class(self, top):
        """Whether a ground term is known to be in it: as nothing clashed, there is no ring below it then."""
        body = self.body_of(top)
        return body is not None and self.nodes.grounds[body]

    def tops_below(self, top):
        body = self.body_of(top)
        return [] if body is None else [self.top_of(half) for half in self.nodes.halves[body]]

    def unlikes_hold(self):
        """Whether none became the same by the last saying; those that never can any more needn't be kept."""
        kept = []
        for one, other, gap in self.unlikes:
            if gap[0] not in self.changed and gap[1] not in self.changed:
                kept.append((one, other, gap))
                continue
            left = self.gap_between(gap[0], gap[1]) or self.gap_between(one, other)
            if left == ():
                return False
            if not self.is_lasting(left):
                kept.append((one, other, left))
        self.unlikes = kept
        return True

    def gap_between(self, one, other):
        """The tops of two parts, each at the same place, that aren't the same by what is known; () without any."""
        seen = {}
        waiting = [(one, other)]
        while waiting:
            first, second = waiting.pop()
            tops = (self.top_of(first), self.top_of(second))
            if tops[0] == tops[1] or tops in seen:
                continue
            seen[tops] = True
            bodies = [self.body_of(top) for top in tops]
            if not all([body is not None and self.nodes.is_pair_node(body) for body in bodies]):
                return tops
            waiting.extend(list(zip(self.nodes.halves[bodies[0]], self.nodes.halves[bodies[1]])))
        return ()

    def is_lasting(self, gap):
        """Whether the two can't become the same any more."""
        if all([self.body_of(top) is not None for top in gap]):
            return True
        kinds = [self.kind_known(top) for top in gap]
        return None not in kinds and kinds[0] != kinds[1]

    def kind_known(self, top):
        """The kind that the class has to be of, the empty text where it is of none, None where nothing is known."""
        body = self.body_of(top)
        if body is None:
            return self.sorts.get(top)
        return kind_of(self.nodes.built[body]) or ""
