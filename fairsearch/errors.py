"""The refusals of the program, each with what it is about as its fields."""


class NoText(ValueError):
    """What was handed in is no text of the kind that was asked for."""

    def __init__(self, text):
        self.text = text


class NotPlain(ValueError):
    """A goal of this kind (its first word) has no place among kept calls."""

    def __init__(self, kind):
        self.kind = kind


class NoRow(ValueError):
    """The row with this number is none that a desk takes."""

    def __init__(self, at):
        self.at = at


class TooMany(ArithmeticError):
    """More is needed than this limit lets by."""

    def __init__(self, limit):
        self.limit = limit


class Missing(LookupError):
    """Nothing has this name."""

    def __init__(self, name):
        self.name = name


class ShelfError(Exception):
    """What a shelf alone refuses."""


class Taken(ShelfError):
    """This name is in use already."""

    def __init__(self, name):
        self.name = name


class Used(ShelfError):
    """The relation of this name is called by another one."""

    def __init__(self, name, by):
        self.name = name
        self.by = by


class NoProgram(ShelfError):
    """With the relations that were to come, by their names, there is no right program."""

    def __init__(self, coming):
        self.coming = coming


class NoGoal(ShelfError):
    """What was to begin by this title is no question."""

    def __init__(self, title):
        self.title = title


class NoDeed(ShelfError):
    """This thing is no deed."""

    def __init__(self, thing):
        self.thing = thing
