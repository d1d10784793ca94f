"""Goals, relations and programs as texts, and those that texts write."""

from fairsearch.errors import NoText
from fairsearch.goalreaders import GoalReader
from fairsearch.goals import are_names, is_program
from fairsearch.termtexts import show_term


def show_goal(goal):
    return " ".join(goal_words(goal))


def goal_words(goal):
    """What stands between the blanks of a goal's text, a list; a term is one."""
    word = goal[0]
    if word in ("both", "either"):
        return [word, str(len(goal[1])), *[show_goal(part) for part in goal[1]]]
    if word == "fresh":
        return [word, *name_words(goal[1]), show_goal(goal[2])]
    if word == "call":
        return [word, goal[1], str(len(goal[2])), *[show_term(term) for term in goal[2]]]
    return [word, *[show_term(term) for term in goal[1:]]]


def name_words(names):
    return [str(len(names)), *names]


def read_goal(text):
    """The goal that show_goal writes so, whatever it calls and whatever unknowns it has; else NoText."""
    reader = GoalReader(text)
    goal = reader.next_goal()
    reader.expect_end()
    return goal


def show_relation(relation):
    name, names, goal = relation
    return " ".join([name, *name_words(names), "=", show_goal(goal)])


def read_relation(text):
    """The relation that show_relation writes so, whatever it calls and whatever unknowns it has; else NoText."""
    relation = read_named(text)
    if not are_names(relation[1]):
        raise NoText(text)
    return relation


def read_named(text):
    """A name, names, perhaps alike, and a goal, written as a relation is; else NoText."""
    reader = GoalReader(text)
    named = reader.next_relation()
    reader.expect_end()
    return named


def show_program(program):
    return "\n".join([show_relation(relation) for relation in program])


def read_program(text):
    """The program, one that is right, that show_program writes so; else NoText."""
    if text == "":
        return ()
    program = read_lines(text)
    if not is_program(program):
        raise NoText(text)
    return program


def read_lines(text):
    if not isinstance(text, str):
        raise NoText(text)
    try:
        return tuple([read_relation(line) for line in text.split("\n")])
    except NoText:
        # The line alone isn't what was handed in.
        raise NoText(text) from None
