import random
import unittest

from leasttolls.longsigns import long_signs
from leasttolls.longwords import long_table
from leasttolls.makings import signs_made, weights
from samples import (
    CROWDED, NAMED, ONE_ROOM, PLAIN, go_together, letter_signs, made_machines, made_recipe, signs_multiplied,
    signs_sharpened,
)

A = ("letter", "a")
B = ("letter", "b")
BIG = 10 ** 30


def ring_machine(longs, rooms):
    """By a, rings of rooms side by side, of tolls that are not 0; b leads from each room to each next one for 0."""
    doors = []
    first = 0
    for long in longs:
        doors.extend((first + at, "a", first + (at + 1) % long, 1 + at % 3) for at in range(long))
        first += long
    doors.extend((room, "b", room + 1, 0) for room in range(rooms - 1))
    return (2, rooms, (0,), (rooms - 1,), tuple(doors))


# Of each the least number from the first on whose power of a is steady.
RINGS = [
    (1, ring_machine([1], 1)), (1, ring_machine([1, 1], 3)), (2, ring_machine([2], 2)), (3, ring_machine([3], 3)),
    (4, ring_machine([4], 5)), (5, ring_machine([5], 5)), (6, ring_machine([2, 3], 5)),
]


def plain_power(signs, many):
    told = tuple(tuple(0 if i == j else 3 for j in range(len(signs))) for i in range(len(signs)))
    for at in range(many):
        told = signs_multiplied(told, signs)
    return told


def small_power(signs, many):
    """A power that may be great: from some step on they come round, so it is taken back by whole rounds."""
    seen = {}
    power = signs
    at = 1
    while power not in seen and at < many:
        seen[power] = at
        power = signs_multiplied(power, signs)
        at += 1
    if at == many:
        return power
    first = seen[power]
    return plain_power(signs, first + (many - first) % (at - first))


def by_the_document(machine, recipe, n):
    told = []
    for step in recipe:
        if step[0] == "letter":
            told.append((letter_signs(machine, step[1]), 3))
        elif step[0] == "pair":
            one, other = told[step[1]], told[step[2]]
            told.append((signs_multiplied(one[0], other[0]), one[1] + other[1]))
        else:
            signs, weight = told[step[1]]
            many = step[2]
            p = 1
            while signs_sharpened(plain_power(signs, p)) is None:
                p += 1
            q, r = divmod(many, p)
            if q >= (n + 1) * machine[1]:
                sharp = signs_sharpened(plain_power(signs, p))
                told.append((signs_multiplied(sharp, plain_power(signs, r)), (2 * p + r) * weight))
            else:
                told.append((small_power(signs, many), many * weight))
    return told[-1]


class LongSigns(unittest.TestCase):
    def test_letters_and_pairs(self):
        told = long_signs(PLAIN, (A, B, ("pair", 0, 1), ("pair", 2, 2), ("pair", 3, 0)), 0)
        self.assertEqual(told, (letter_product("ababa"), 15))
        self.assertEqual(long_signs(PLAIN, (A,), BIG), (((1, 0, 3), (3, 3, 3), (3, 3, 0)), 3))
        self.assertEqual((type(told), len(told), type(told[0]), type(told[1])), (tuple, 2, tuple, int))

    def test_of_the_last_step(self):
        self.assertEqual(long_signs(ONE_ROOM, (A, ("times", 0, BIG), A), 0), (((1,),), 3))

    def test_one_room_below_just_and_above(self):
        for n in (0, 1, 2, 5, 10 ** 6, BIG - 1):
            self.assertEqual(long_signs(ONE_ROOM, (A, ("times", 0, n + 1)), n), (((2,),), 6))
            self.assertEqual(long_signs(ONE_ROOM, (A, ("times", 0, n + 2)), n), (((2,),), 6))
            if n > 0:
                self.assertEqual(long_signs(ONE_ROOM, (A, ("times", 0, n)), n), (((1,),), 3 * n))
        self.assertEqual(long_signs(ONE_ROOM, (A, ("times", 0, BIG)), BIG), (((1,),), 3 * BIG))

    def test_rings_below_just_and_above(self):
        for p, machine in RINGS:
            for n in (0, 1, 2, 7):
                enough = (n + 1) * machine[1]
                for q in (enough - 1, enough, enough + 1):
                    for r in range(p):
                        many = p * q + r
                        if many == 0:
                            continue
                        recipe = (A, ("times", 0, many))
                        told = long_signs(machine, recipe, n)
                        self.assertEqual(told, by_the_document(machine, recipe, n), (machine, many, n))
                        self.assertEqual(told[1], 3 * many if q < enough else 3 * (2 * p + r))
                        self.assertEqual(2 in [sign for row in told[0] for sign in row], q >= enough)

    def test_rings_with_the_greatest_numbers(self):
        for p, machine in RINGS:
            for many in range(BIG - 7, BIG + 1):
                r = many % p
                told = long_signs(machine, (A, ("times", 0, many)), 10 ** 20)
                self.assertEqual(told[1], 3 * (2 * p + r))
                self.assertEqual(told, by_the_document(machine, (A, ("times", 0, many)), 10 ** 20))
                self.assertEqual(long_signs(machine, (A, ("times", 0, many)), BIG)[1], 3 * many)

    def test_times_of_times(self):
        recipe = (A, B, ("pair", 0, 1), ("times", 2, 40), ("pair", 3, 0), ("times", 4, 50))
        for p, machine in RINGS:
            for n in (0, 1, 3, 4, 5, 12, 60):
                self.assertEqual(long_signs(machine, recipe, n), by_the_document(machine, recipe, n))

    def test_against_the_document(self):
        chance = random.Random(111)
        for machine in made_machines(112, 150) + NAMED:
            for n in (0, 1, 2, 9, BIG - 1, BIG):
                recipe = made_recipe(chance, machine[0], chance.randint(1, 12), (1, 2, 3, 5, 12, 29, BIG - 1, BIG))
                self.assertEqual(long_signs(machine, recipe, n), by_the_document(machine, recipe, n))

    def test_they_go_together_with_the_table(self):
        chance = random.Random(113)
        met = set()
        for machine in made_machines(114, 80) + [PLAIN, CROWDED, ONE_ROOM] + [machine for p, machine in RINGS]:
            for n in (0, 1, 2, 9, BIG - 1, BIG):
                recipe = made_recipe(chance, machine[0], 8, (1, 2, 3, 5, 12, 29, 100, BIG - 1, BIG))
                for at in range(8):
                    told = long_signs(machine, recipe[:at + 1], n)
                    table = long_table(machine, recipe[:at + 1])
                    self.assertTrue(go_together(told[0], table, n, told[1]), (machine, recipe[:at + 1], n))
                    met.update((recipe[at][0], sign) for row in told[0] for sign in row)
        self.assertEqual(len(met), 11)

    def test_as_makings_where_all_is_steady(self):
        # Of a steady step, times enough is what makings call sharp.
        machine = (2, 2, (0,), (1,), ((0, "a", 0, 1), (0, "b", 1, 0), (1, "a", 1, 0), (1, "b", 1, 3)))
        makings = (A, ("sharp", 0), B, ("pair", 1, 2))
        recipe = (A, ("times", 0, BIG), B, ("pair", 1, 2))
        self.assertEqual(long_signs(machine, recipe, 5), (signs_made(machine, makings)[-1], weights(machine, makings)[-1]))

    def test_the_greatest_numbers_do_not_stand_in_the_weight(self):
        recipe = (A, B) + tuple(("times", at, BIG) for at in range(12))
        for machine in made_machines(115, 40):
            if machine[0] > 1:
                told = long_signs(machine, recipe, 100)
                self.assertLess(told[1], 10 ** 40)


def letter_product(word):
    told = letter_signs(PLAIN, word[0])
    for letter in word[1:]:
        told = signs_multiplied(told, letter_signs(PLAIN, letter))
    return told


if __name__ == "__main__":
    unittest.main()
