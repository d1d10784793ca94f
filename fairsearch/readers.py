"""A reader goes through a text from its beginning, and reads the terms in it."""

from fairsearch.errors import NoText
from fairsearch.terms import is_word, joined


def pieces_of(text):
    """Each bracket and each blank by itself, and what stands between them."""
    pieces = []
    begun = 0
    for at, sign in enumerate(text):
        if sign in "() ":
            if begun < at:
                pieces.append(text[begun:at])
            pieces.append(sign)
            begun = at + 1
    if begun < len(text):
        pieces.append(text[begun:])
    return pieces


def are_figures(text):
    """Whether it writes a number from 0 on, without noughts ahead."""
    if text == "" or not all(["0" <= sign <= "9" for sign in text]):
        return False
    return text == "0" or text[0] != "0"


def atom_of(piece):
    """The number or the word that is so written, or None."""
    if is_word(piece):
        return piece
    if are_figures(piece):
        return int(piece)
    if piece[:1] == "-" and piece != "-0" and are_figures(piece[1:]):
        return -int(piece[1:])
    return None


class Reader:
    """Its methods refuse, with the whole text, what isn't written as it should be."""

    def __init__(self, text):
        if not isinstance(text, str):
            raise NoText(text)
        self.text = text
        self.pieces = pieces_of(text)
        self.at = 0

    def peek(self):
        """The next piece, which stays the next one; behind the last one the empty text."""
        return self.pieces[self.at] if self.at < len(self.pieces) else ""

    def next_piece(self):
        piece = self.peek()
        self.at += 1
        return piece

    def expect(self, piece):
        if self.next_piece() != piece:
            raise NoText(self.text)

    def expect_end(self):
        if self.at < len(self.pieces):
            raise NoText(self.text)

    def next_atom(self):
        atom = atom_of(self.next_piece())
        if atom is None:
            raise NoText(self.text)
        return atom

    def unknown_by(self, mark):
        """The unknown that is written by this behind a `?`, or None."""
        return ("?", int(mark)) if are_figures(mark) else None

    def next_single(self):
        """An unknown or an atom."""
        if self.peek()[:1] != "?":
            return self.next_atom()
        unknown = self.unknown_by(self.next_piece()[1:])
        if unknown is None:
            raise NoText(self.text)
        return unknown

    def next_term(self):
        # A list of heads for each bracket that isn't closed yet, and no call for each:
        # a text may have more brackets than there may be calls within one another.
        lists = []
        term = self.next_leaf(lists)
        while lists:
            lists[-1].append(term)
            if self.peek() == ")":
                self.expect(")")
                term = joined(lists.pop(), ())
                continue
            self.expect(" ")
            if self.peek() == ".":
                term = joined(lists.pop(), self.next_end())
            else:
                term = self.next_leaf(lists)
        return term

    def next_leaf(self, lists):
        """The first term behind the brackets that stand next; each that begins a pair adds a list."""
        while self.peek() == "(":
            self.expect("(")
            if self.peek() == ")":
                self.expect(")")
                return ()
            lists.append([])
        return self.next_single()

    def next_end(self):
        """The end of a pair behind a point: what is written without brackets, as all else goes without a point."""
        self.expect(".")
        self.expect(" ")
        end = self.next_single()
        self.expect(")")
        return end
