"""All answers to a question by keeping calls, even where a Search goes on without end."""

from fairsearch.branches import Branch
from fairsearch.errors import NotPlain, TooMany
from fairsearch.facts import Facts
from fairsearch.goals import all_goals, relations_by_name
from fairsearch.namings import Naming
from fairsearch.nodes import Nodes
from fairsearch.showing import show_answer
from fairsearch.terms import parted

KEPT = 60


def kept_answers(program, names, goal, *, most=KEPT):
    """The renamed terms of all answers, by their texts."""
    refuse_unplain([goal, *[relation[2] for relation in program]])
    keeper = Keeper(program, most)
    lists = [parted(term)[0] for term in keeper.terms_of(names, goal)]
    return tuple(sorted([tuple(terms) for terms in lists], key=lambda terms: show_answer((terms, (), (), ()))))


def refuse_unplain(goals):
    """NotPlain of the first goal, as they are written, that says more than what is the same."""
    for goal in goals:
        for part in all_goals(goal):
            if part[0] in ("unlike", "number", "word", "absent"):
                raise NotPlain(part[0])


class Kept:
    """A call, or the question: the list of its terms, its answers, and the branches that wait for these.

    A list of terms goes by its node; an answer is such a list, renamed.
    """

    def __init__(self, node, is_call):
        self.node = node
        self.is_call = is_call
        self.answers = {}
        self.callers = []


class Keeper:
    """Each branch is one of a call, or of the question; it waits at a call, and each answer of that leads it on."""

    def __init__(self, program, most):
        self.relations = relations_by_name(program)
        self.nodes = Nodes()
        self.most = most
        self.counted = 0
        self.calls = {}
        self.waiting = []

    def terms_of(self, names, goal):
        """The list of terms of each answer to a question."""
        branch = self.new_branch()
        known = branch.new_unknowns(names)
        branch.put_ahead([goal], known)
        question = Kept(self.list_node([known[name] for name in names]), False)
        self.waiting.append((branch, question))
        while self.waiting:
            branch, kept = self.waiting.pop()
            self.lead_on(branch.turned(), kept)
        return [self.nodes.built[node] for node in question.answers]

    def new_branch(self):
        return Branch(self.relations, Facts(self.nodes))

    def list_node(self, nodes):
        made = self.nodes.leaf_node(())
        for node in reversed(nodes):
            made = self.nodes.pair_node(node, made)
        return made

    def nodes_in(self, node):
        """The nodes of which this is the list."""
        found = []
        rest = node
        while self.nodes.is_pair_node(rest):
            head, rest = self.nodes.halves[rest]
            found.append(head)
        return found

    def lead_on(self, branch, kept):
        """Does what is due for a branch behind its turn."""
        if branch.ending == "answer":
            self.add_answer(branch, kept)
        elif branch.asked != ():
            self.ask(branch, kept)
        else:
            self.waiting.extend([(part, kept) for part in branch.all_parts()])

    def count_one(self):
        self.counted += 1
        if self.counted > self.most:
            raise TooMany(self.most)

    def add_answer(self, branch, kept):
        node = Naming(branch.facts, 0).node_for(kept.node)
        if node in kept.answers:
            return
        if kept.is_call:
            self.count_one()
        kept.answers[node] = True
        for caller, above in kept.callers:
            self.resume(caller, above, node)

    def ask(self, branch, kept):
        name, nodes = branch.asked
        naming = Naming(branch.facts, 0)
        key = (name, naming.node_for(self.list_node(nodes)))
        if key not in self.calls:
            self.count_one()
            self.calls[key] = self.begun_call(name, key[1], len(naming.numbers))
        called = self.calls[key]
        called.callers.append((branch, kept))
        for answer in called.answers:
            self.resume(branch, kept, answer)

    def begun_call(self, name, node, unknowns):
        """A call whose terms have so many unknowns."""
        call = Kept(node, True)
        branch = self.new_branch()
        branch.many = unknowns
        names, goal = self.relations[name]
        branch.put_ahead([goal], dict(zip(names, self.nodes_in(node))))
        self.waiting.append((branch, call))
        return call

    def resume(self, branch, kept, answer):
        """Leads a branch that waits at a call on by an answer of that, its unknowns being new ones."""
        other = branch.twin_with(branch.facts.twin())
        naming = Naming(Facts(self.nodes), other.many)
        node = naming.node_for(answer)
        other.many += len(naming.numbers)
        if other.facts.same(self.list_node(branch.asked[1]), node):
            self.waiting.append((other, kept))
