"""A reader of goals and relations, with names in the places of unknowns' numbers."""

from fairsearch.errors import NoText
from fairsearch.goals import are_names
from fairsearch.readers import Reader, are_figures
from fairsearch.terms import is_word

# How many terms stand behind the first word of goals that have nothing else.
TERMS_BEHIND = {"same": 2, "unlike": 2, "number": 1, "word": 1}


class OpenGoal:
    """A goal that is being read: how many goals it still needs, and the ones that it has."""

    def __init__(self, parts, many):
        self.parts = parts
        self.many = many
        self.within = []

    def has_all(self):
        return len(self.within) == self.many

    def made_goal(self):
        if self.parts[0] in ("both", "either"):
            return (*self.parts, tuple(self.within))
        return (*self.parts, *self.within)


class GoalReader(Reader):
    def unknown_by(self, mark):
        return ("?", mark) if is_word(mark) else None

    def next_word(self):
        word = self.next_piece()
        if not is_word(word):
            raise NoText(self.text)
        return word

    def next_count(self):
        figures = self.next_piece()
        if not are_figures(figures):
            raise NoText(self.text)
        return int(figures)

    def next_words(self):
        """Names, with their number ahead, perhaps alike."""
        many = self.next_count()
        words = []
        while len(words) < many:
            self.expect(" ")
            words.append(self.next_word())
        return tuple(words)

    def next_terms(self, many):
        terms = []
        while len(terms) < many:
            self.expect(" ")
            terms.append(self.next_term())
        return tuple(terms)

    def next_goal(self):
        # A list of goals that aren't whole yet, and no call for each, as in next_term.
        begun = []
        while True:
            begun.append(self.next_beginning())
            while begun[-1].has_all():
                goal = begun.pop().made_goal()
                if begun == []:
                    return goal
                begun[-1].within.append(goal)
            self.expect(" ")

    def next_beginning(self):
        """The next goal up to the goals in it."""
        word = self.next_word()
        if word in TERMS_BEHIND:
            return OpenGoal((word, *self.next_terms(TERMS_BEHIND[word])), 0)
        self.expect(" ")
        if word == "absent":
            return OpenGoal((word, self.next_atom(), *self.next_terms(1)), 0)
        if word in ("both", "either"):
            return OpenGoal((word,), self.next_count())
        if word == "fresh":
            return self.next_fresh()
        if word == "call":
            return self.next_call()
        raise NoText(self.text)

    def next_fresh(self):
        names = self.next_words()
        if names == () or not are_names(names):
            raise NoText(self.text)
        return OpenGoal(("fresh", names), 1)

    def next_call(self):
        name = self.next_word()
        self.expect(" ")
        return OpenGoal(("call", name, self.next_terms(self.next_count())), 0)

    def next_relation(self):
        """A relation, but that its names may be alike."""
        name = self.next_word()
        self.expect(" ")
        names = self.next_words()
        self.expect(" ")
        self.expect("=")
        self.expect(" ")
        return (name, names, self.next_goal())
