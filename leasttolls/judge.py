"""The judgement: whether one purse is enough for all words, and the paper that tells it."""

from leasttolls.closed import closed
from leasttolls.cuts import end_of
from leasttolls.makings import signs_made
from leasttolls.rows import above, rows_met
from leasttolls.signs import UNBOUND, end_sign
from leasttolls.tables import price


def judge(machine):
    makings = closed(machine)
    for at, signs in enumerate(signs_made(machine, makings)):
        if end_sign(machine, signs) == UNBOUND:
            return ("none", makings[:at + 1])
    return least_purse(machine)


def least_purse(machine):
    # The first word that costs more than the last purse is also the first that costs just the next one.
    k = 0
    word = None
    dearer = above(machine, k)
    while dearer is not None:
        word = dearer
        k = price(machine, word)
        dearer = above(machine, k)
    if k == 0:
        word = first_free_word(machine)
    return ("bound", k, word)


def first_free_word(machine):
    for word, row in rows_met(machine, 0):
        if end_of(machine, row) == 0:
            return word
    return None


def paper(machine):
    told = judge(machine)
    if told[0] == "none":
        return told
    k = told[1]
    rows = tuple([row for word, row in rows_met(machine, k)])
    return ("bound", k, rows, told[2])
