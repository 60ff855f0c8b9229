"""Words of makings unrolled by a number: their lengths, letters and tables."""

from leasttolls.errors import TooLong
from leasttolls.machines import rooms_of
from leasttolls.makings import as_times, counted, folded
from leasttolls.tables import letter_table, power, product

MOST_WRITTEN = 2000


def unrolled(machine, makings, n):
    return as_times(makings, (n + 1) * rooms_of(machine))


def lengths(machine, makings, n):
    return counted(unrolled(machine, makings, n), 1)


def begun(word):
    return word[:MOST_WRITTEN + 1]


def begun_times(word, many):
    enough = MOST_WRITTEN // len(word) + 1
    return begun(word * min(many, enough))


def last_word(steps):
    # Words are written only so far that one is seen to be too long: the whole may be far too many letters.
    word = folded(steps, lambda letter: letter, lambda one, other: begun(one + other), begun_times)[-1]
    if len(word) > MOST_WRITTEN:
        raise TooLong("the word has more than 2000 letters")
    return word


def last_table(machine, steps):
    return folded(steps, lambda letter: letter_table(machine, letter), product, power)[-1]


def word_unrolled(machine, makings, n):
    return last_word(unrolled(machine, makings, n))


def table_unrolled(machine, makings, n):
    return last_table(machine, unrolled(machine, makings, n))
