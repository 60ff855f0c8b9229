"""The closed set of a machine: its letters' signs, with all products and all that is sharpened."""

from leasttolls.errors import TooMuch
from leasttolls.machines import letters_of
from leasttolls.signs import sign_product, word_signs
from leasttolls.steady import is_steady, sharpened

MOST_TABLES = 80


class ClosedSet:
    def __init__(self):
        self.steps = []
        self.tables = []
        self.seen = {}

    def take(self, step, signs):
        if signs in self.seen:
            return
        if len(self.steps) == MOST_TABLES:
            raise TooMuch("the closed set has more than eighty sign tables")
        self.steps.append(step)
        self.tables.append(signs)
        self.seen[signs] = True

    def take_sharp(self, at):
        if is_steady(self.tables[at]):
            self.take(("sharp", at), sharpened(self.tables[at]))

    def take_pairs(self, at):
        # With each one up to itself, on either side: later ones take their pairs with this one.
        for other in range(at + 1):
            self.take(("pair", at, other), sign_product(self.tables[at], self.tables[other]))
            self.take(("pair", other, at), sign_product(self.tables[other], self.tables[at]))


def closed(machine):
    found = ClosedSet()
    for letter in letters_of(machine):
        found.take(("letter", letter), word_signs(machine, letter))
    at = 0
    while at < len(found.steps):
        found.take_sharp(at)
        found.take_pairs(at)
        at += 1
    return tuple(found.steps)
