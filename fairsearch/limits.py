"""What unknowns may not be: their kinds, atoms that are absent, and fillings, called rows, that may not hold."""

from fairsearch.fillings import alike, put_in
from fairsearch.terms import is_unknown, is_whole, is_word, joined, leaves_of, with_terms
from fairsearch.termtexts import show_filling


def kind_of(term):
    """The kind of an atom, None of what is none."""
    if is_whole(term):
        return "number"
    return "word" if is_word(term) else None


def kinds_behind(kinds, filling):
    """The kinds behind the filling, by numbers, or None where they can't be."""
    table = dict(filling)
    found = {}
    for number, kind in kinds:
        term = table.get(number, ("?", number))
        if is_unknown(term):
            if found.setdefault(term[1], kind) != kind:
                return None
        elif kind_of(term) != kind:
            return None
    return tuple([(number, found[number]) for number in sorted(found)])


def absents_behind(absents, filling, kinds):
    """The absents behind the filling, by unknowns of these kinds, in order, or None where an atom isn't absent."""
    table = dict(filling)
    by_number = dict(kinds)
    found = {}
    for number, atom in absents:
        leaves = leaves_of((table[number],)) if number in table else [("?", number)]
        if atom in leaves:
            return None
        for leaf in leaves:
            if is_unknown(leaf) and by_number.get(leaf[1], kind_of(atom)) == kind_of(atom):
                found[leaf[1], str(atom)] = (leaf[1], atom)
    return tuple([found[key] for key in sorted(found)])


def may_hold(filling, kinds, absents):
    """Whether kinds and absents let the filling hold in some world."""
    behind = kinds_behind(kinds, filling)
    # No atom becomes a part of an unknown of which the filling says nothing.
    filled = dict(filling)
    touched = [(number, atom) for number, atom in absents if number in filled]
    return behind is not None and absents_behind(touched, filling, behind) is not None


def row_behind(row, filling):
    """The row that says behind the filling what this one says: None where it never holds, () where it always does."""
    unknowns, terms = sides_of(row)
    return alike(put_in(unknowns, filling), put_in(terms, filling))


def sides_of(row):
    """Two terms that are the same just where the row holds: a list of its unknowns, and one of its terms."""
    return joined([("?", number) for number, term in row], ()), joined([term for number, term in row], ())


def follows(one, other):
    """Whether the other row holds wherever the one does, so that the one needn't be barred too."""
    table = dict(one)
    # An unknown of which the table says nothing isn't the same as its term, which becomes none with a higher number.
    for number, term in other:
        if number not in table or table[number] != with_terms(term, table):
            return False
    return True


def least_rows(rows, kinds, absents):
    """The rows that bar something that no other one bars, each once, by their texts."""
    by_text = {show_filling(row): row for row in rows if may_hold(row, kinds, absents)}
    texts = sorted(by_text)
    needed = [
        text for text in texts
        if not any([other != text and follows(by_text[text], by_text[other]) for other in texts])
    ]
    return tuple([by_text[text] for text in needed])


def limit_lines(rows, kinds, absents):
    """Each of these as it is written, a list."""
    barred = [f"not {show_filling(row)}" for row in rows]
    sorts = [f"{kind} ?{number}" for number, kind in kinds]
    return [*barred, *sorts, *[f"absent {atom} ?{number}" for number, atom in absents]]
