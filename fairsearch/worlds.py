"""Ground terms for unknowns that nothing says more of than limits do."""

from fairsearch.terms import is_atom, leaves_of, unknowns_of, with_terms

LETTERS = "abcdefghijklmnopqrstuvwxyz"


def ground_terms(terms, rows, kinds, absents):
    """What the terms are where their unknowns are such values."""
    values = new_values(unknowns_of(terms), rows, kinds, absents)
    return tuple([with_terms(term, values) for term in terms])


def new_values(numbers, rows, kinds, absents):
    """By each of these numbers of unknowns an atom, unlike all others and all that the limits name.

    So no row holds: by each row some unknown would be another unknown's atom, or an atom of the row, or a pair.
    """
    by_number = dict(kinds)
    used = {atom: True for number, atom in absents}
    used.update({leaf: True for leaf in leaves_of([term for row in rows for number, term in row]) if is_atom(leaf)})
    values = {}
    at = 0
    for number in numbers:
        while atom_at(at, by_number.get(number)) in used:
            at += 1
        values[number] = atom_at(at, by_number.get(number))
        at += 1
    return values


def atom_at(at, kind):
    return word_at(at) if kind == "word" else at


def word_at(at):
    """A word for each number: its figures by twenty-six, the last one first, as letters."""
    letters = LETTERS[at % 26]
    while at >= 26:
        at = at // 26
        letters += LETTERS[at % 26]
    return letters
