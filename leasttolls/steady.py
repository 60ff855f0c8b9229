"""Steady sign tables: those that are their own product."""

from leasttolls.errors import NotSteady
from leasttolls.grids import grid
from leasttolls.signs import FREE, NONE, UNBOUND, sign_product


def is_steady(signs):
    return sign_product(signs, signs) == signs


def round_of(sign):
    # Going round ever again where each round costs something, the toll outgrows every number.
    if sign == FREE or sign == NONE:
        return sign
    return UNBOUND


def sharpened(signs):
    if not is_steady(signs):
        raise NotSteady("only a steady sign table can be sharpened")
    size = len(signs)
    rounds = [round_of(signs[k][k]) for k in range(size)]
    return grid(size, lambda i, j: min([max(signs[i][k], rounds[k], signs[k][j]) for k in range(size)]))


def steady_power(signs):
    # One by one, since a lesser power may be steady where a greater one is not.
    many = 1
    power = signs
    while not is_steady(power):
        many += 1
        power = sign_product(power, signs)
    return (many, power)
