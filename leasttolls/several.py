"""Several machines brought to one: summed, the lesser, set behind one another; and a machine turned round."""

from leasttolls.errors import NoPair, TooMuch
from leasttolls.machines import MOST_ROOMS, MOST_TOLL, begins_of, doors_of, ends_of, letters_of, rooms_of


def check_pair(one, other):
    if letters_of(one) != letters_of(other):
        raise NoPair("the machines don't know as many letters")


def check_rooms(rooms):
    if rooms > MOST_ROOMS:
        raise TooMuch("more than five rooms are needed")


def check_tolls(one, other):
    if greatest_toll(one) + greatest_toll(other) > MOST_TOLL:
        raise TooMuch("the greatest tolls come to more than 3")


def greatest_toll(machine):
    return max([door[3] for door in doors_of(machine)], default=0)


def brought(one, rooms, begins, ends, doors):
    # Of alike doors the cheapest alone is kept: so there are never more than a machine may have.
    fees = {}
    for start, letter, goal, fee in doors:
        way = (start, letter, goal)
        fees[way] = min(fee, fees.get(way, fee))
    return (len(letters_of(one)), rooms, begins, ends, tuple([way + (fee,) for way, fee in fees.items()]))


def summed(one, other):
    # Both machines are gone through at once: a room stands for a room of each.
    check_pair(one, other)
    wide = rooms_of(other)
    check_rooms(rooms_of(one) * wide)
    check_tolls(one, other)
    begins = both_rooms(begins_of(one), begins_of(other), wide)
    ends = both_rooms(ends_of(one), ends_of(other), wide)
    return brought(one, rooms_of(one) * wide, begins, ends, both_doors(one, other, wide))


def both_rooms(rooms, other_rooms, wide):
    found = []
    for room in rooms:
        found.extend([room * wide + other_room for other_room in other_rooms])
    return tuple(found)


def both_doors(one, other, wide):
    found = []
    for start, letter, goal, fee in doors_of(one):
        found.extend([
            (start * wide + door[0], letter, goal * wide + door[2], fee + door[3])
            for door in doors_of(other) if door[1] == letter
        ])
    return found


def moved(rooms, by):
    return tuple([room + by for room in rooms])


def doors_beside(one, other):
    by = rooms_of(one)
    moved_doors = [(start + by, letter, goal + by, fee) for start, letter, goal, fee in doors_of(other)]
    return list(doors_of(one)) + moved_doors


def lesser(one, other):
    check_pair(one, other)
    by = rooms_of(one)
    check_rooms(by + rooms_of(other))
    begins = begins_of(one) + moved(begins_of(other), by)
    ends = ends_of(one) + moved(ends_of(other), by)
    return brought(one, by + rooms_of(other), begins, ends, doors_beside(one, other))


def behind(one, other):
    check_pair(one, other)
    by = rooms_of(one)
    check_rooms(by + rooms_of(other))
    ends = moved(ends_of(other), by)
    if lets_the_empty_word_by(other):
        ends = ends_of(one) + ends
    doors = doors_beside(one, other) + doors_across(one, other)
    return brought(one, by + rooms_of(other), begins_of(one), ends, doors)


def lets_the_empty_word_by(machine):
    return any([room in ends_of(machine) for room in begins_of(machine)])


def doors_across(one, other):
    # The other's first door is taken straight from an end of the one, since no door is without a letter.
    by = rooms_of(one)
    found = []
    for start, letter, goal, fee in doors_of(other):
        if start in begins_of(other):
            found.extend([(room, letter, goal + by, fee) for room in ends_of(one)])
    return found


def turned(machine):
    doors = tuple([(goal, letter, start, fee) for start, letter, goal, fee in doors_of(machine)])
    return (len(letters_of(machine)), rooms_of(machine), ends_of(machine), begins_of(machine), doors)
