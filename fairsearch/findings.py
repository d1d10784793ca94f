"""Findings: what was found, with all that is needed to see that it is so."""

from fairsearch.answers import has_great_unlikes
from fairsearch.branches import first_branch, walk
from fairsearch.endchecks import end_holds, is_path
from fairsearch.fillings import alike, is_filling
from fairsearch.goals import is_question
from fairsearch.namings import Naming
from fairsearch.neverchecks import never_holds
from fairsearch.searches import answer_of
from fairsearch.showing import is_shown
from fairsearch.terms import is_ground, is_term
from fairsearch.traces import trace_holds


def finding_holds(thing):
    if not isinstance(thing, tuple) or thing == ():
        return False
    word, parts = thing[0], thing[1:]
    if word == "alike" and len(parts) == 3:
        return alike_holds(parts[0], parts[1], parts[2])
    if word == "never" and len(parts) == 3:
        return is_term(parts[0]) and is_term(parts[1]) and never_holds(parts[0], parts[1], parts[2])
    if word == "trace" and len(parts) == 5:
        return is_question(parts[0], parts[1], parts[2]) and valued_trace_holds(parts)
    if word == "answer" and len(parts) == 5:
        return is_question(parts[0], parts[1], parts[2]) and answer_holds(parts)
    if word == "end" and len(parts) == 4:
        return is_question(parts[0], parts[1], parts[2]) and end_holds(parts[0], parts[1], parts[2], parts[3])
    return False


def alike_holds(one, other, filling):
    return is_term(one) and is_term(other) and is_filling(filling) and alike(one, other) == filling


def valued_trace_holds(parts):
    program, names, goal, values, trace = parts
    if not isinstance(values, tuple) or len(values) != len(names):
        return False
    if not all([is_term(value) and is_ground(value) for value in values]):
        return False
    return trace_holds(program, names, goal, values, trace)


def answer_holds(parts):
    program, names, goal, path, shown = parts
    if not is_path(path) or not is_shown(shown) or len(shown[0]) != len(names):
        return False
    branch = first_branch(program, names, goal)
    if walk(branch, path) != "answer" or not has_terms(branch, shown[0]) or has_great_unlikes(branch.facts):
        return False
    # The terms are the same already; comparing them part by part could go far down.
    return answer_of(branch, names)[1:] == shown[1:]


def has_terms(branch, terms):
    """Whether these are the terms of the question's names, renamed, however great those that it has are."""
    naming = Naming(branch.facts, 0)
    nodes = branch.facts.nodes
    return all([
        naming.node_for(branch.facts.unknown_node(number)) == nodes.node_of(term) for number, term in enumerate(terms)
    ])
