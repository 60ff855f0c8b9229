"""Signs and weights of long words, by a machine and a number."""

from leasttolls.machines import rooms_of
from leasttolls.makings import LETTER_WEIGHT, folded
from leasttolls.signs import sign_power, sign_product, word_signs
from leasttolls.steady import sharpened, steady_power


def signs_of_pair(one, other):
    return (sign_product(one[0], other[0]), one[1] + other[1])


def signs_of_times(one, many, enough):
    signs = one[0]
    weight = one[1]
    steady = steady_power(signs)
    period = steady[0]
    rest = many % period
    if many // period < enough:
        return (sign_power(signs, many), many * weight)
    # The rounds are so many that each costly one comes to more than was asked for: their number is no matter.
    return (sign_product(sharpened(steady[1]), sign_power(signs, rest)), (2 * period + rest) * weight)


def long_signs(machine, recipe, n):
    enough = (n + 1) * rooms_of(machine)
    return folded(
        recipe,
        lambda letter: (word_signs(machine, letter), LETTER_WEIGHT),
        signs_of_pair,
        lambda one, many: signs_of_times(one, many, enough),
    )[-1]
