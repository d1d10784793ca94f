"""What is shown of terms by what is known."""

from fairsearch.fillings import alike
from fairsearch.limits import absents_behind, kinds_behind, least_rows, sides_of
from fairsearch.namings import Naming
from fairsearch.terms import unknowns_of

# Far more than what anything is promised of, and little enough to be written out.
GREATEST = 100000
DEEPEST = 200


def shown_of(facts, nodes):
    """The nodes' terms, filled and renamed, and the rows, kinds and absents of their unknowns."""
    naming = Naming(facts, 0)
    terms = tuple([naming.term_for(node) for node in nodes])
    # From here on come only unknowns that stand in none of the terms.
    numbers = dict(naming.numbers)
    kinds = kinds_behind([(numbers[top], facts.sorts[top]) for top in numbers if top in facts.sorts], ())
    absents = absents_behind(
        [(numbers[top], facts.nodes.built[atom]) for top in numbers for atom in facts.missing.get(top, ())], (), kinds)
    rows = [alike(naming.term_for(one), naming.term_for(other)) for one, other, gap in facts.unlikes]
    within = [row for row in rows if row is not None and has_unknowns_below(row, len(numbers))]
    return (terms, least_rows(within, kinds, absents), kinds, absents)


def has_great_unlikes(facts):
    """Whether something that may not be the same is too great to be written out."""
    naming = Naming(facts, 0)
    nodes = [naming.node_for(node) for one, other, gap in facts.unlikes for node in (one, other)]
    return any([facts.nodes.sizes[node] > GREATEST or facts.nodes.depths[node] > DEEPEST for node in nodes])


def has_unknowns_below(row, many):
    return all([number < many for number in unknowns_of(sides_of(row))])
