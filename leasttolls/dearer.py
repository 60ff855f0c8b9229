"""The first word that one machine doesn't let by, or lets by at more than so many times another one's price."""

from leasttolls.cuts import end_of, first_row, led
from leasttolls.machines import MOST_TOLL, letters_of
from leasttolls.several import check_pair


def dearer(one, other, times, long):
    check_pair(one, other)
    # No word of so many letters costs more than this, so cut here each price is itself.
    most = MOST_TOLL * long
    start = (first_row(one), first_row(other))
    level = [("", start)]
    seen = {start: True}
    for left in range(long, -1, -1):
        for word, rows in level:
            if is_dearer(end_of(one, rows[0]), end_of(other, rows[1]), times):
                return word
        if left > 0:
            level = level_behind(one, other, most, level, seen)
    return None


def is_dearer(price, other_price, times):
    if other_price is None:
        return False
    return price is None or price > times * other_price


def level_behind(one, other, most, level, seen):
    # Words of the same rows go on alike, so the first of them alone is led on.
    found = []
    for word, rows in level:
        for letter in letters_of(one):
            fresh = (led(one, most, rows[0], letter), led(other, most, rows[1], letter))
            if fresh not in seen:
                seen[fresh] = True
                found.append((word + letter, fresh))
    return found
