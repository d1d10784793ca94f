"""Terms, by chance: the same ones each time, as the chance is seeded."""

from random import Random

from samples import unknown


class Maker:
    def __init__(self, seed, unknowns=4, atoms=(0, 1, 2, "a", "b", ())):
        self.rng = Random(seed)
        self.unknowns = unknowns
        self.atoms = atoms

    def leaf(self):
        if self.rng.random() < 0.55:
            return unknown(self.rng.randrange(self.unknowns))
        return self.rng.choice(self.atoms)

    def term(self, deep=3):
        if deep <= 1 or self.rng.random() < 0.35:
            return self.leaf()
        return (self.term(deep - 1), self.term(deep - 1))

    def pairs(self, many, deep=3):
        return [(self.term(deep), self.term(deep)) for _ in range(many)]

    def saying(self, deep=3):
        word = self.rng.choice(("same", "unlike", "unlike", "unlike", "number", "word", "absent"))
        if word in ("same", "unlike"):
            return (word, self.term(deep), self.term(deep))
        if word == "absent":
            return (word, self.rng.choice([atom for atom in self.atoms if atom != ()]), self.term(deep))
        return (word, unknown(self.rng.randrange(self.unknowns)) if self.rng.random() < 0.8 else self.term(2))
