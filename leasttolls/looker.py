"""The looker: whether a paper, whoever wrote it, is as told. It knows plain prices, cut prices and signs alone."""

from leasttolls.cuts import end_of, first_row, led
from leasttolls.errors import NoMaking, NoPaper
from leasttolls.machines import is_tuple_of, is_whole, is_word_up_to, letters_of, rooms_of
from leasttolls.makings import signs_made
from leasttolls.signs import UNBOUND, end_sign
from leasttolls.tables import price

MOST_ROWS = 301
MOST_LETTERS = 300


def look(machine, paper):
    if is_tuple_of(paper, 4) and paper[0] == "bound":
        look_at_bound(machine, paper[1], paper[2], paper[3])
    elif is_tuple_of(paper, 2) and paper[0] == "none":
        look_at_makings(machine, paper[1])
    else:
        raise NoPaper("paper")


def look_at_bound(machine, k, rows, word):
    if not is_whole(k, 0, 10 ** 30):
        raise NoPaper("purse")
    look_at_rows(machine, k, rows)
    look_at_leads(machine, k, rows)
    look_at_ends(machine, k, rows)
    if not is_word_for(machine, k, rows, word):
        raise NoPaper("word")


def look_at_rows(machine, k, rows):
    if not isinstance(rows, tuple) or not 1 <= len(rows) <= MOST_ROWS:
        raise NoPaper("rows")
    for at, row in enumerate(rows):
        if not is_row(machine, k, row):
            raise NoPaper("rows", at)


def is_row(machine, k, thing):
    if not is_tuple_of(thing, rooms_of(machine)):
        return False
    return all([entry is None or is_whole(entry, 0, k + 1) for entry in thing])


def look_at_leads(machine, k, rows):
    there = {}
    for row in rows:
        there[row] = True
    if first_row(machine) not in there:
        raise NoPaper("first")
    for at, row in enumerate(rows):
        if not all([led(machine, k, row, letter) in there for letter in letters_of(machine)]):
            raise NoPaper("led", at)


def look_at_ends(machine, k, rows):
    for at, row in enumerate(rows):
        if end_of(machine, row) == k + 1:
            raise NoPaper("end", at)


def is_word_for(machine, k, rows, word):
    if word is None:
        return k == 0 and all([end_of(machine, row) is None for row in rows])
    return is_word_up_to(machine, word, MOST_LETTERS) and price(machine, word) == k


def look_at_makings(machine, makings):
    try:
        made = signs_made(machine, makings)
    except NoMaking as refusal:
        raise NoPaper("making", refusal.at) from None
    if end_sign(machine, made[-1]) != UNBOUND:
        raise NoPaper("sign")
