"""Signs of prices: free, some, without bound, none; and tables of them."""

from leasttolls.grids import at_begins_and_ends, grid, raised
from leasttolls.tables import word_table

# No single price is without bound: that sign tells of words that grow.
FREE = 0
SOME = 1
UNBOUND = 2
NONE = 3


def sign_of(price):
    if price is None:
        return NONE
    return FREE if price == 0 else SOME


def reading(table):
    return grid(len(table), lambda i, j: sign_of(table[i][j]))


def plain_signs(n):
    return grid(n, lambda i, j: FREE if i == j else NONE)


def sign_product(one, other):
    size = len(one)
    return grid(size, lambda i, j: min([max(one[i][k], other[k][j]) for k in range(size)]))


def sign_power(signs, many):
    return raised(signs, many, plain_signs(len(signs)), sign_product)


def word_signs(machine, word):
    return reading(word_table(machine, word))


def end_sign(machine, signs):
    return min(at_begins_and_ends(machine, signs), default=NONE)
