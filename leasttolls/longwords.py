"""Long words, told by recipes: lengths, letters, tables and prices, also where they can't be written out."""

from leasttolls.grids import at_begins_and_ends
from leasttolls.machines import LETTERS, is_tuple_of, is_whole
from leasttolls.makings import counted, is_ahead, is_letter_step, is_pair_step
from leasttolls.tables import least
from leasttolls.unrolled import last_table, last_word

MOST_STEPS = 60


def is_times_step(thing, at):
    return (
        is_tuple_of(thing, 3)
        and thing[0] == "times"
        and is_ahead(thing[1], at)
        and is_whole(thing[2], 1, 10 ** 30)
    )


def is_step(thing, at):
    return is_letter_step(thing, len(LETTERS)) or is_pair_step(thing, at) or is_times_step(thing, at)


def is_recipe(thing):
    if not isinstance(thing, tuple) or not 1 <= len(thing) <= MOST_STEPS:
        return False
    return all([is_step(step, at) for at, step in enumerate(thing)])


def long_length(recipe):
    return counted(recipe, 1)[-1]


def letter_at(recipe, at):
    # From the last step down to the letter's own, with the place told anew within each part.
    longs = counted(recipe, 1)
    step = recipe[-1]
    place = at
    while step[0] != "letter":
        part = step[1]
        if step[0] == "times":
            place = place % longs[part]
        elif place >= longs[part]:
            place = place - longs[part]
            part = step[2]
        step = recipe[part]
    return step[1]


def long_word(recipe):
    return last_word(recipe)


def long_table(machine, recipe):
    return last_table(machine, recipe)


def long_price(machine, recipe):
    return least(at_begins_and_ends(machine, long_table(machine, recipe)))
