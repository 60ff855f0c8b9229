"""Makings: steps that make sign tables of letters, pairs and sharpened ones."""

from leasttolls.errors import NoMaking
from leasttolls.machines import is_letter, is_tuple_of, is_whole, letters_of
from leasttolls.signs import sign_product, word_signs
from leasttolls.steady import is_steady, sharpened

MOST_STEPS = 100
LETTER_WEIGHT = 3


def is_ahead(thing, at):
    return is_whole(thing, 0, at - 1)


def is_letter_step(thing, letters):
    return is_tuple_of(thing, 2) and thing[0] == "letter" and is_letter(thing[1], letters)


def is_pair_step(thing, at):
    return is_tuple_of(thing, 3) and thing[0] == "pair" and is_ahead(thing[1], at) and is_ahead(thing[2], at)


def is_sharp_step(thing, at):
    return is_tuple_of(thing, 2) and thing[0] == "sharp" and is_ahead(thing[1], at)


def signs_made(machine, makings):
    if not isinstance(makings, tuple) or not 1 <= len(makings) <= MOST_STEPS:
        raise NoMaking(0)
    made = []
    for step in makings:
        made.append(signs_of_step(machine, step, made))
    return made


def signs_of_step(machine, step, made):
    at = len(made)
    if is_letter_step(step, len(letters_of(machine))):
        return word_signs(machine, step[1])
    if is_pair_step(step, at):
        return sign_product(made[step[1]], made[step[2]])
    if is_sharp_step(step, at) and is_steady(made[step[1]]):
        return sharpened(made[step[1]])
    raise NoMaking(at)


def as_times(makings, many):
    # A sharp step takes the word of one step many times; told so, makings are read as recipes are.
    return [("times", step[1], many) if step[0] == "sharp" else step for step in makings]


def folded(steps, of_letter, of_pair, of_times):
    values = []
    for step in steps:
        if step[0] == "letter":
            values.append(of_letter(step[1]))
        elif step[0] == "pair":
            values.append(of_pair(values[step[1]], values[step[2]]))
        else:
            values.append(of_times(values[step[1]], step[2]))
    return values


def counted(steps, for_letter):
    return folded(
        steps,
        lambda letter: for_letter,
        lambda one, other: one + other,
        lambda one, many: one * many,
    )


def weights(machine, makings):
    return counted(as_times(makings, 2), LETTER_WEIGHT)
