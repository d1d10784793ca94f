"""Words and terms: what they are, their unknowns, and terms renamed."""

WORD_LETTERS = 8


def is_whole(thing):
    """Whether it is a whole number; True and False are ints of Python's, but no numbers here."""
    return isinstance(thing, int) and not isinstance(thing, bool)


def is_tuple_of(thing, many):
    """Whether it is a tuple of so many things."""
    return isinstance(thing, tuple) and len(thing) == many


def is_word(thing):
    if not isinstance(thing, str):
        return False
    return 1 <= len(thing) <= WORD_LETTERS and all(["a" <= sign <= "z" for sign in thing])


def is_atom(thing):
    return is_whole(thing) or is_word(thing)


def is_marked(thing):
    """Whether it has the form of an unknown; what stands behind the mark isn't asked."""
    return is_tuple_of(thing, 2) and thing[0] == "?"


def is_unknown(thing):
    return is_marked(thing) and is_whole(thing[1]) and thing[1] >= 0


def is_pair(thing):
    """Whether it has the form of a pair; what its head and its rest are isn't asked."""
    return is_tuple_of(thing, 2) and thing[0] != "?"


def is_leaf(thing):
    """Whether it is a term that is no pair."""
    return thing == () or is_atom(thing) or is_unknown(thing)


def is_term(thing):
    return all([is_leaf(leaf) for leaf in leaves_of((thing,))])


def is_ground(term):
    return unknowns_in(term) == ()


def leaves_of(things):
    """What is no pair in them, a list, as it comes, heads ahead of rests."""
    # A list of what is still to be looked at: the depth of a thing never becomes that of calls.
    leaves = []
    waiting = list(reversed(things))
    while waiting:
        part = waiting.pop()
        if is_pair(part):
            waiting.append(part[1])
            waiting.append(part[0])
        else:
            leaves.append(part)
    return leaves


def unknowns_in(term):
    """The numbers of its unknowns as they come, each once."""
    return unknowns_of((term,))


def unknowns_of(terms):
    """The numbers of the unknowns of several terms as they come, each once."""
    # A dict keeps the order in which its keys came first.
    return tuple({leaf[1]: True for leaf in leaves_of(terms) if is_unknown(leaf)})


def renamed(terms):
    """The terms with 0, 1, .. in the places of their unknowns' numbers, as these come."""
    table = {old: ("?", new) for new, old in enumerate(unknowns_of(terms))}
    return tuple([with_terms(term, table) for term in terms])


def with_terms(term, table):
    """The term with the table's terms in the places of those unknowns that have one there, all at once."""
    heads, end = parted(term)
    if is_marked(end):
        end = table.get(end[1], end)
    return joined([with_terms(head, table) for head in heads], end)


def parted(term):
    """The heads of a term and of its rests, a list, and the last rest, which is no pair."""
    heads = []
    end = term
    while is_pair(end):
        heads.append(end[0])
        end = end[1]
    return heads, end


def joined(heads, end):
    """The term that is parted into these."""
    term = end
    for head in reversed(heads):
        term = (head, term)
    return term
