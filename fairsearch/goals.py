"""Goals, relations and programs: what they are, and when they are right."""

from fairsearch.terms import is_atom, is_marked, is_tuple_of, is_word, leaves_of


def is_program(thing):
    """Whether it is a program that is right."""
    if not isinstance(thing, tuple) or not all([is_relation(relation) for relation in thing]):
        return False
    titles = [name for name, names, goal in thing]
    if not all([one < other for one, other in zip(titles, titles[1:])]):
        return False
    return all([is_right(goal, names, thing) for name, names, goal in thing])


def is_goal(program, names, thing):
    """Whether it is a goal that is right by the program and the names."""
    return is_any_goal(thing) and is_right(thing, names, program)


def is_question(program, names, goal):
    """Whether the three, of anything, are a question."""
    return is_program(program) and are_names(names) and is_goal(program, names, goal)


def is_relation(thing):
    """Whether it is one, whatever it calls and whatever unknowns it has."""
    if not is_tuple_of(thing, 3):
        return False
    return is_word(thing[0]) and are_names(thing[1]) and is_any_goal(thing[2])


def are_names(thing):
    """Whether it is a tuple of unlike names."""
    if not isinstance(thing, tuple) or not all([is_word(name) for name in thing]):
        return False
    return len(set(thing)) == len(thing)


def is_open_term(thing):
    return all([is_open_leaf(leaf) for leaf in leaves_of((thing,))])


def is_open_leaf(thing):
    return thing == () or is_atom(thing) or is_marked(thing) and is_word(thing[1])


def are_open_terms(thing):
    return isinstance(thing, tuple) and all([is_open_term(term) for term in thing])


def is_any_goal(thing):
    """Whether it is a goal, whatever it calls and whatever unknowns it has."""
    # A list of what is still to be looked at: the depth of a thing never becomes that of calls.
    waiting = [thing]
    while waiting:
        goal = waiting.pop()
        if not isinstance(goal, tuple) or goal == () or not has_parts(goal[0], goal[1:]):
            return False
        waiting.extend(goals_in(goal))
    return True


def has_parts(word, parts):
    """Whether a goal with this first word has such parts; what the goals in it are isn't asked."""
    if word in ("same", "unlike"):
        return len(parts) == 2 and are_open_terms(parts)
    if word in ("number", "word"):
        return len(parts) == 1 and are_open_terms(parts)
    if word == "absent":
        return len(parts) == 2 and is_atom(parts[0]) and is_open_term(parts[1])
    if word in ("both", "either"):
        return len(parts) == 1 and isinstance(parts[0], tuple)
    if word == "fresh":
        return len(parts) == 2 and are_names(parts[0]) and parts[0] != ()
    return word == "call" and len(parts) == 2 and is_word(parts[0]) and are_open_terms(parts[1])


def goals_in(goal):
    """The goals right in it."""
    if goal[0] in ("both", "either"):
        return goal[1]
    return goal[2:] if goal[0] == "fresh" else ()


def all_goals(goal):
    """The goal and all goals in it, a list, in the order in which they are written."""
    found = []
    waiting = [goal]
    while waiting:
        part = waiting.pop()
        found.append(part)
        waiting.extend(goals_in(part)[::-1])
    return found


def terms_in(goal):
    """The open terms right in it."""
    if goal[0] == "call":
        return goal[2]
    if goal[0] == "absent":
        return goal[2:]
    return goal[1:] if goal[0] in ("same", "unlike", "number", "word") else ()


def relations_by_name(program):
    """By each relation's name its names and its goal."""
    return {name: (names, goal) for name, names, goal in program}


def is_right(goal, names, program):
    """Whether the goal's unknowns have names that are known where they stand, and its calls are such as they may be."""
    many = {relation[0]: len(relation[1]) for relation in program}
    waiting = [(goal, names)]
    while waiting:
        goal, names = waiting.pop()
        if goal[0] == "call" and many.get(goal[1]) != len(goal[2]):
            return False
        if not all([leaf[1] in names for leaf in leaves_of(terms_in(goal)) if is_marked(leaf)]):
            return False
        inner = (*names, *goal[1]) if goal[0] == "fresh" else names
        waiting.extend([(part, inner) for part in goals_in(goal)])
    return True
