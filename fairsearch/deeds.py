"""Deeds: what a Shelf does."""

from fairsearch.goals import is_relation
from fairsearch.terms import is_whole, is_word


def is_deed(thing):
    """Whether it is one; what the deeds in it are isn't asked."""
    return isinstance(thing, tuple) and thing != () and has_deed_parts(thing[0], thing[1:])


def has_deed_parts(word, parts):
    if word == "put":
        return len(parts) == 1 and are_relations(parts[0])
    if word in ("drop", "end"):
        return len(parts) == 1 and is_word(parts[0])
    if word == "begin":
        return len(parts) == 3 and is_word(parts[0])
    if word == "go":
        return len(parts) == 2 and is_word(parts[0]) and is_whole(parts[1]) and parts[1] >= 0
    return is_group_word(word) and len(parts) == 1 and isinstance(parts[0], tuple)


def is_group_word(word):
    """Whether a deed with this first word has others in it."""
    return word in ("some", "all")


def are_relations(thing):
    return isinstance(thing, tuple) and thing != () and all([is_relation(relation) for relation in thing])


class Group:
    """A some or an all that has begun: the deeds that are left, what those ahead told, and what an all goes back to."""

    def __init__(self, word, deeds, kept):
        self.begun_by = word
        self.left = list(deeds)[::-1]
        self.told = []
        self.kept = kept
