"""Prices cut at a number, and rows of them."""

from leasttolls.machines import begins_of, doors_of, ends_of, rooms_of
from leasttolls.tables import added, least


def cut(price, k):
    if price is None or price <= k:
        return price
    return k + 1


def first_row(machine):
    begins = begins_of(machine)
    return tuple([0 if room in begins else None for room in range(rooms_of(machine))])


def least_into(machine, row, letter, room):
    return least([
        added(row[start], fee) for start, sign, goal, fee in doors_of(machine) if sign == letter and goal == room
    ])


def led(machine, k, row, letter):
    return tuple([cut(least_into(machine, row, letter, room), k) for room in range(rooms_of(machine))])


def row_of(machine, k, word):
    row = first_row(machine)
    for letter in word:
        row = led(machine, k, row, letter)
    return row


def end_of(machine, row):
    return least([row[room] for room in ends_of(machine)])
