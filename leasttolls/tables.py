"""Tables of prices: their products and powers, and those of letters and words."""

from leasttolls.grids import at_begins_and_ends, grid, raised
from leasttolls.machines import doors_of, rooms_of


def least(prices):
    return min([number for number in prices if number is not None], default=None)


def added(one, other):
    if one is None or other is None:
        return None
    return one + other


def plain(n):
    return grid(n, lambda i, j: 0 if i == j else None)


def product(one, other):
    size = len(one)
    return grid(size, lambda i, j: least([added(one[i][k], other[k][j]) for k in range(size)]))


def power(table, many):
    return raised(table, many, plain(len(table)), product)


def letter_table(machine, letter):
    def least_fee(i, j):
        return least([fee for start, sign, goal, fee in doors_of(machine) if (start, sign, goal) == (i, letter, j)])

    return grid(rooms_of(machine), least_fee)


def word_table(machine, word):
    # A letter's table is made once, however often the letter stands in the word.
    made = {}
    table = plain(rooms_of(machine))
    for letter in word:
        if letter not in made:
            made[letter] = letter_table(machine, letter)
        table = product(table, made[letter])
    return table


def price(machine, word):
    return least(at_begins_and_ends(machine, word_table(machine, word)))
