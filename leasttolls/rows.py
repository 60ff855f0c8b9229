"""The rows that words meet, and the first word that costs more than a number."""

from leasttolls.cuts import end_of, first_row, led
from leasttolls.errors import TooMuch
from leasttolls.machines import letters_of

MOST_ROWS = 300


def rows_met(machine, k):
    # The first word of a row goes on from the first word of another one, so only these words are led on;
    # taken in their order, they come upon new rows in the order of words.
    first = first_row(machine)
    met = [("", first)]
    seen = {first: True}
    at = 0
    while at < len(met) and not ends_above(machine, k, met[-1][1]):
        meet_behind(machine, k, met[at], met, seen)
        at += 1
    return met


def ends_above(machine, k, row):
    return end_of(machine, row) == k + 1


def meet_behind(machine, k, entry, met, seen):
    for letter in letters_of(machine):
        row = led(machine, k, entry[1], letter)
        if row in seen:
            continue
        if len(met) == MOST_ROWS:
            raise TooMuch("more than three hundred rows are met")
        seen[row] = True
        met.append((entry[0] + letter, row))
        if ends_above(machine, k, row):
            return


def above(machine, k):
    last = rows_met(machine, k)[-1]
    if ends_above(machine, k, last[1]):
        return last[0]
    return None
