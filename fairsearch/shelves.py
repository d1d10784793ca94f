"""A Shelf: a program, and Searches by titles."""

from fairsearch.deeds import Group, is_deed, is_group_word
from fairsearch.errors import Missing, NoDeed, NoGoal, NoProgram, ShelfError, Taken, Used
from fairsearch.goals import all_goals, is_program, is_question
from fairsearch.searches import Search

RELATIONS = 8


class Shelf:
    def __init__(self, program=()):
        self.program = program
        self.searches = {}
        self.entries = []

    def do(self, deed):
        # A list of those that have begun, and no call for each, as deeds may stand far within one another. The first
        # one isn't a deed itself: it has the deed that was handed in, and is told what that tells.
        groups = [Group("", (deed,), None)]
        try:
            while groups[0].told == []:
                self.do_next(groups)
        except (Missing, ShelfError):
            self.leave_all(groups)
            raise
        return groups[0].told[0]

    def do_next(self, groups):
        """Begins the next deed, or ends the last one that has others in it where these are done."""
        group = groups[-1]
        if group.left == []:
            groups.pop()
            groups[-1].told.append(tuple(group.told))
            self.entries.append((group.begun_by, False))
            return
        deed = group.left.pop()
        if not is_deed(deed):
            raise NoDeed(deed)
        self.entries.append((deed[0], True))
        if is_group_word(deed[0]):
            groups.append(Group(deed[0], deed[1], self.state() if deed[0] == "all" else None))
        else:
            group.told.append(self.do_single(deed))

    def leave_all(self, groups):
        """Ends those that have begun, from within, where one in them was refused."""
        for group in reversed(groups[1:]):
            if group.kept is not None:
                self.program, self.searches = group.kept
            self.entries.append((group.begun_by, False))

    def state(self):
        """The program and the Searches as they are now."""
        return (self.program, {title: self.searches[title].twin() for title in self.searches})

    def do_single(self, deed):
        word = deed[0]
        try:
            return self.do_by_word(word, deed[1:])
        finally:
            self.entries.append((word, False))

    def do_by_word(self, word, parts):
        if word == "put":
            return self.put(parts[0])
        if word == "drop":
            return self.drop(parts[0])
        if word == "begin":
            return self.begin_search(parts[0], parts[1], parts[2])
        if word == "go":
            return self.search_by(parts[0]).take(parts[1])
        return self.end_search(parts[0])

    def put(self, relations):
        taken = {name: True for name in self.names()}
        for name, names, goal in relations:
            if name in taken:
                raise Taken(name)
            taken[name] = True
        program = tuple(sorted([*self.program, *relations], key=lambda relation: relation[0]))
        if len(program) > RELATIONS or not is_program(program):
            raise NoProgram(tuple([relation[0] for relation in relations]))
        self.program = program

    def drop(self, name):
        dropped = self.relation(name)
        others = tuple([relation for relation in self.program if relation != dropped])
        for other in others:
            if is_called(name, other[2]):
                raise Used(name, other[0])
        self.program = others

    def begin_search(self, title, names, goal):
        if title in self.searches:
            raise Taken(title)
        if not is_question(self.program, names, goal):
            raise NoGoal(title)
        self.searches[title] = Search(self.program, names, goal)

    def end_search(self, title):
        self.search_by(title)
        del self.searches[title]

    def search_by(self, title):
        if title not in self.searches:
            raise Missing(title)
        return self.searches[title]

    def log(self):
        return tuple(self.entries)

    def inside(self):
        """How many deeds have begun and not ended."""
        begun = len([word for word, begins in self.entries if begins])
        return begun - (len(self.entries) - begun)

    def names(self):
        return tuple([relation[0] for relation in self.program])

    def relation(self, name):
        for relation in self.program:
            if relation[0] == name:
                return relation
        raise Missing(name)

    def titles(self):
        return tuple(self.searches)

    def turns(self, title):
        return self.search_by(title).turns()

    def open_ones(self, title):
        """How many branches are open."""
        return len(self.search_by(title))

    def __len__(self):
        return len(self.searches)

    def __eq__(self, other):
        return isinstance(other, Shelf) and standing_of(self) == standing_of(other)


def is_called(name, goal):
    return any([part[0] == "call" and part[1] == name for part in all_goals(goal)])


def standing_of(shelf):
    """All by which Shelves are equal."""
    searches = [(title, search.question, search.turns()) for title, search in shelf.searches.items()]
    return (shelf.program, searches)
