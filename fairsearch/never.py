"""Papers that nothing makes two terms alike."""

from fairsearch.classes import classes_of, ordered


def never(one, other):
    """A paper that nothing makes the two alike, or None where something does."""
    classes = classes_of(one, other)
    if classes.clash != ():
        writer = PaperWriter(classes.links)
        first, second = classes.clash
        return shortened(writer.steps, writer.show(first, second))
    nodes = classes.body_by_number()
    order, left = ordered({number: classes.nodes.built[nodes[number]] for number in nodes})
    if not left:
        return None
    writer = PaperWriter(classes.links)
    ring = [writer.show(classes.unknown_node(number), nodes[number]) for number in ring_in(left)]
    return shortened(writer.steps, writer.write(("ring", tuple(ring))))


def ring_in(graph):
    """Keys of the graph, each but the last one with the next one, the last one with the first."""
    walk = []
    number = min(list(graph))
    while number not in walk:
        walk.append(number)
        number = graph[number][0]
    return walk[walk.index(number):]


class PaperWriter:
    """Writes steps that show equations of linked nodes."""

    def __init__(self, links):
        self.steps = []
        self.ways = {}
        for one, other, why in links:
            self.add_link(one, other, why)

    def write(self, step):
        """Writes the step, and tells its number."""
        self.steps.append(step)
        return len(self.steps) - 1

    def add_link(self, one, other, why):
        if why == ("given",):
            number = self.write(why)
        else:
            half, first, second = why
            number = self.write((half, self.show(first, second)))
        self.ways.setdefault(one, []).append((other, number))
        self.ways.setdefault(other, []).append((one, self.write(("turn", number))))

    def show(self, one, other):
        """The number of a step that shows the two."""
        numbers = self.numbers_between(one, other)
        shown = numbers[0]
        for number in numbers[1:]:
            shown = self.write(("through", shown, number))
        return shown

    def numbers_between(self, one, other):
        """The numbers of the steps that, one through another, lead from the one to the other."""
        came = {one: ()}
        waiting = [one]
        while other not in came:
            node = waiting.pop()
            for near, number in self.ways[node]:
                if near not in came:
                    came[near] = (node, number)
                    waiting.append(near)
        numbers = []
        node = other
        while came[node] != ():
            node, number = came[node]
            numbers.append(number)
        return numbers[::-1]


def shortened(steps, last):
    """The paper of the last step and those that it needs."""
    needed = {last: True}
    for at in range(last, -1, -1):
        if at in needed:
            needed.update({number: True for number in numbers_in(steps[at])})
    order = sorted(needed)
    places = {old: new for new, old in enumerate(order)}
    return tuple([with_places(steps[at], places) for at in order])


def numbers_in(step):
    return step[1] if step[0] == "ring" else step[1:]


def with_places(step, places):
    numbers = tuple([places[number] for number in numbers_in(step)])
    return ("ring", numbers) if step[0] == "ring" else (step[0], *numbers)
