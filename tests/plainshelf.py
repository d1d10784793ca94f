"""A plain second way to what a Shelf does: all is copied ahead of each deed, and Searches are had anew, turn by turn."""

from fairsearch.errors import Missing, NoDeed, NoGoal, NoProgram, ShelfError, Taken, Used
from fairsearch.goals import is_goal, is_program
from fairsearch.searches import Search
from fairsearch.terms import is_word

REFUSALS = (Missing, ShelfError)


def replayed(question, turns):
    search = Search(*question)
    for _ in range(turns):
        search.take(1, limit=1)
    return search


def is_whole(thing):
    return type(thing) is int


def is_plain_relation(thing):
    """By a program of its own that has whatever it calls."""
    if type(thing) is not tuple or len(thing) != 3 or not is_word(thing[0]) or type(thing[1]) is not tuple:
        return False
    if not all(is_word(name) for name in thing[1]) or len(set(thing[1])) != len(thing[1]):
        return False
    called, named = {}, set()
    try:
        gather(thing[2], called, named)
    except (TypeError, ValueError, IndexError, KeyError):
        return False
    if any(len(sizes) > 1 for sizes in called.values()):
        return None
    letters = "abcdefghijklmnopqrstuvwxyz"
    stub = tuple((name, tuple(letters[:min(sizes)]), ("both", ())) for name, sizes in sorted(called.items()))
    return is_goal(stub, (*thing[1], *sorted(named - set(thing[1]))), thing[2])


def gather(goal, called, named):
    """The relations that are called, with how many terms, and all names of unknowns."""
    word = goal[0]
    if word in ("both", "either"):
        for part in goal[1]:
            gather(part, called, named)
    elif word == "fresh":
        gather(goal[2], called, named)
    elif word == "call":
        if is_word(goal[1]):
            called.setdefault(goal[1], set()).add(len(goal[2]))
        gather_names(goal[2], named)
    else:
        gather_names(goal[1:], named)


def gather_names(thing, named):
    if type(thing) is tuple:
        if len(thing) == 2 and thing[0] == "?" and is_word(thing[1]):
            named.add(thing[1])
        for part in thing:
            gather_names(part, named)


class PlainShelf:
    def __init__(self, program=()):
        self.program = program
        self.searches = []
        self.log = []

    def state(self):
        return (self.program, list(self.searches))

    def find(self, title):
        for at, row in enumerate(self.searches):
            if row[0] == title:
                return at
        raise Missing(title)

    def do(self, deed):
        if not self.is_deed(deed):
            raise NoDeed(deed)
        self.log.append((deed[0], True))
        before = self.state()
        try:
            return getattr(self, "do_" + deed[0])(*deed[1:])
        except REFUSALS:
            if deed[0] != "some":
                self.program, self.searches = before
            raise
        finally:
            self.log.append((deed[0], False))

    def is_deed(self, deed):
        if type(deed) is not tuple or not deed or type(deed[0]) is not str:
            return False
        word, *parts = deed
        if word == "put":
            return len(parts) == 1 and type(parts[0]) is tuple and bool(parts[0]) and all(map(is_plain_relation, parts[0]))
        if word in ("drop", "end"):
            return len(parts) == 1 and is_word(parts[0])
        if word == "begin":
            return len(parts) == 3 and is_word(parts[0])
        if word == "go":
            return len(parts) == 2 and is_word(parts[0]) and is_whole(parts[1]) and parts[1] >= 0
        return word in ("some", "all") and len(parts) == 1 and type(parts[0]) is tuple

    def do_some(self, deeds):
        return tuple([self.do(deed) for deed in deeds])

    do_all = do_some

    def do_put(self, relations):
        names = [row[0] for row in self.program]
        for row in relations:
            if row[0] in names:
                raise Taken(row[0])
            names.append(row[0])
        program = tuple(sorted((*self.program, *relations)))
        if not is_program(program) or len(program) > 8:
            raise NoProgram(tuple(row[0] for row in relations))
        self.program = program

    def do_drop(self, name):
        if name not in [row[0] for row in self.program]:
            raise Missing(name)
        for row in self.program:
            called = {}
            gather(row[2], called, set())
            if row[0] != name and name in called:
                raise Used(name, row[0])
        self.program = tuple(row for row in self.program if row[0] != name)

    def do_begin(self, title, names, goal):
        if title in [row[0] for row in self.searches]:
            raise Taken(title)
        right = type(names) is tuple and all(map(is_word, names)) and len(set(names)) == len(names)
        if not right or not is_goal(self.program, names, goal):
            raise NoGoal(title)
        self.searches.append((title, (self.program, names, goal), 0))

    def do_go(self, title, many):
        at = self.find(title)
        title, question, turns = self.searches[at]
        search = replayed(question, turns)
        answers = search.take(many)
        self.searches[at] = (title, question, search.turns())
        return answers

    def do_end(self, title):
        del self.searches[self.find(title)]
