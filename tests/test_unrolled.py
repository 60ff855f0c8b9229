import random
import unittest

from leasttolls.errors import TooLong
from leasttolls.makings import signs_made, weights
from leasttolls.tables import letter_table, power, price, product, word_table
from leasttolls.unrolled import lengths, table_unrolled, word_unrolled
from samples import (
    CROWDED, NO_DOOR, ONE_ROOM, PLAIN, go_together, least_numbers, made_machines, made_makings, step_values,
)

A = ("letter", "a")
B = ("letter", "b")
BIG = 10 ** 30

# Of one to five rooms; by a, each stays where it is.
STAYS = [(2, rooms, (0,), (0,), tuple((room, "a", room, room % 2) for room in range(rooms))) for rooms in range(1, 6)]


def words_of(machine, makings, n):
    """The word of each step, written out."""
    many = (n + 1) * machine[1]
    return step_values(makings, lambda letter: letter, lambda one, other: one + other, lambda one, step: one * many)


def lengths_of(machine, makings, n):
    many = (n + 1) * machine[1]
    return step_values(makings, lambda letter: 1, lambda one, other: one + other, lambda one, step: one * many)


class Lengths(unittest.TestCase):
    def test_ordinary(self):
        makings = (A, B, ("pair", 0, 1), ("sharp", 0), ("pair", 3, 2), ("sharp", 3))
        self.assertEqual(lengths(STAYS[0], makings, 0), [1, 1, 2, 1, 3, 1])
        self.assertEqual(lengths(STAYS[1], makings, 0), [1, 1, 2, 2, 4, 4])
        self.assertEqual(lengths(STAYS[1], makings, 1), [1, 1, 2, 4, 6, 16])
        self.assertEqual(lengths(STAYS[4], makings, 2), [1, 1, 2, 15, 17, 225])

    def test_against_the_document(self):
        chance = random.Random(81)
        for machine in made_machines(82, 60):
            makings = made_makings(chance, machine, 12)[0]
            for n in (0, 1, 2, 3, 7, BIG - 1, BIG):
                told = lengths(machine, makings, n)
                self.assertIs(type(told), list)
                self.assertEqual(told == lengths_of(machine, makings, n), True)

    def test_very_many_figures(self):
        makings = (A,) + tuple(("sharp", at) for at in range(99))
        for machine in STAYS:
            told = lengths(machine, makings, BIG)
            self.assertEqual(told == [((BIG + 1) * machine[1]) ** at for at in range(100)], True)

    def test_a_told_list_is_the_askers_own(self):
        makings = (A, ("sharp", 0))
        told = lengths(STAYS[1], makings, 1)
        told[0] = 7
        told.append(9)
        self.assertEqual(lengths(STAYS[1], makings, 1), [1, 4])
        self.assertEqual(told, [7, 4, 9])


class WordUnrolled(unittest.TestCase):
    def test_ordinary(self):
        makings = (A, B, ("pair", 0, 1), ("sharp", 0), ("pair", 3, 2), ("pair", 2, 4))
        self.assertEqual([word_unrolled(STAYS[1], makings[:at], 1) for at in range(1, 7)],
                         ["a", "b", "ab", "aaaa", "aaaaab", "abaaaaab"])

    def test_against_the_document(self):
        chance = random.Random(83)
        refused = 0
        for machine in made_machines(84, 150):
            for n in (0, 1, 2, 5):
                makings = made_makings(chance, machine, chance.randint(4, 16))[0]
                long = lengths_of(machine, makings, n)[-1]
                if long > 2000:
                    refused += 1
                    with self.assertRaises(TooLong):
                        word_unrolled(machine, makings, n)
                else:
                    told = word_unrolled(machine, makings, n)
                    self.assertEqual((type(told), len(told)), (str, long))
                    if max(lengths_of(machine, makings, n)) < 10 ** 6:
                        self.assertEqual(told, words_of(machine, makings, n)[-1])
        self.assertGreater(refused, 5)

    def test_two_thousand(self):
        sharp = (A, ("sharp", 0))
        for machine in STAYS[:2] + STAYS[3:]:
            n = 2000 // machine[1] - 1
            self.assertEqual(word_unrolled(machine, sharp, n), "a" * 2000)
            self.assertEqual(word_unrolled(machine, sharp + (B, ("pair", 1, 2)), n - 1),
                             "a" * (2000 - machine[1]) + "b")
            for more in ((B, ("pair", 1, 2)), (B, ("pair", 2, 1))):
                with self.assertRaises(TooLong):
                    word_unrolled(machine, sharp + more, n)
        with self.assertRaises(TooLong):
            word_unrolled(STAYS[0], sharp, 2000)
        with self.assertRaises(TooLong):
            word_unrolled(STAYS[2], sharp, 666)
        self.assertEqual(word_unrolled(STAYS[2], sharp, 665), "a" * 1998)

    def test_parts_that_come_to_two_thousand(self):
        doubled = (A, B) + tuple(("pair", at, at) for at in range(1, 10)) + (("pair", 10, 0),)
        self.assertEqual(word_unrolled(STAYS[0], doubled, 0), "b" * 512 + "a")
        with self.assertRaises(TooLong):
            word_unrolled(STAYS[0], doubled + (("pair", 11, 11), ("pair", 12, 12)), 0)

    def test_far_more(self):
        makings = (A,) + tuple(("sharp", at) for at in range(99))
        doubled = (A,) + tuple(("pair", at, at) for at in range(99))
        for machine in STAYS:
            with self.assertRaises(TooLong):
                word_unrolled(machine, makings, BIG)
            with self.assertRaises(TooLong):
                word_unrolled(machine, makings[:2], BIG)
            with self.assertRaises(TooLong):
                word_unrolled(machine, doubled, 0)
        # In one room with n = 0 a sharp step's word is the same again.
        self.assertEqual(word_unrolled(STAYS[0], makings, 0), "a")

    def test_a_long_word_that_the_last_one_is_not_made_of(self):
        makings = (A,) + tuple(("sharp", at) for at in range(50)) + (B, ("pair", 0, 51))
        self.assertEqual(word_unrolled(STAYS[4], makings, BIG), "ab")


class TableUnrolled(unittest.TestCase):
    def test_ordinary(self):
        machine = (2, 2, (0,), (1,), ((0, "a", 0, 1), (0, "b", 1, 0), (1, "a", 1, 0), (1, "b", 1, 3)))
        makings = (A, ("sharp", 0), B, ("pair", 1, 2))
        self.assertEqual(table_unrolled(machine, makings[:2], 3), ((8, None), (None, 0)))
        self.assertEqual(table_unrolled(machine, makings, 3), ((None, 8), (None, 3)))
        self.assertEqual(table_unrolled(machine, makings, BIG), ((None, 2 * BIG + 2), (None, 3)))

    def test_as_the_words_table(self):
        chance = random.Random(85)
        written = 0
        for machine in made_machines(86, 100):
            for n in (0, 1, 2, 3):
                makings = made_makings(chance, machine, chance.randint(1, 7))[0]
                if max(lengths_of(machine, makings, n)) <= 2000:
                    written += 1
                    told = table_unrolled(machine, makings, n)
                    self.assertEqual(told, least_numbers(machine, words_of(machine, makings, n)[-1]))
                    self.assertEqual(told, word_table(machine, word_unrolled(machine, makings, n)))
        self.assertGreater(written, 250)

    def test_very_great_numbers(self):
        for machine in STAYS + [PLAIN, CROWDED, ONE_ROOM, NO_DOOR]:
            makings = made_makings(random.Random(87), machine, 30)[0]
            many = (BIG + 1) * machine[1]
            made = step_values(
                makings, lambda letter: letter_table(machine, letter), product, lambda one, step: power(one, many),
            )
            for at in range(30):
                self.assertEqual(table_unrolled(machine, makings[:at + 1], BIG) == made[at], True)

    def test_a_hundred_steps(self):
        makings = (A,) + tuple(("sharp", at) for at in range(99))
        costly = (1, 1, (0,), (0,), ((0, "a", 0, 3),))
        self.assertEqual(table_unrolled(costly, makings, BIG) == ((3 * (BIG + 1) ** 99,),), True)
        for machine in STAYS:
            told = table_unrolled(machine, makings, BIG)
            many = ((BIG + 1) * machine[1]) ** 99
            self.assertEqual([told[room][room] == room % 2 * many for room in range(machine[1])], [True] * machine[1])

    def test_it_goes_together_with_the_signs(self):
        chance = random.Random(88)
        met = set()
        for machine in made_machines(89, 120) + STAYS + [PLAIN, NO_DOOR, ONE_ROOM, CROWDED]:
            makings = made_makings(chance, machine, 9)[0]
            heavy = weights(machine, makings)
            signs = signs_made(machine, makings)
            for n in (0, 1, 2, 6, BIG - 1, BIG):
                for at in range(9):
                    told = table_unrolled(machine, makings[:at + 1], n)
                    self.assertTrue(go_together(signs[at], told, n, heavy[at]), (machine, makings[:at + 1], n))
                    met.update((step[0], sign) for step in makings[at:at + 1] for row in signs[at] for sign in row)
        self.assertEqual(met, {(kind, sign) for kind in ("letter", "pair", "sharp") for sign in range(4)}
                         - {("letter", 2)})

    def test_kinds(self):
        for machine in STAYS:
            told = table_unrolled(machine, (A, ("sharp", 0)), 0)
            self.assertEqual([type(told)] + [type(row) for row in told], [tuple] * (machine[1] + 1))

    def test_the_price_outgrows_every_number(self):
        # By the makings of b sharpened, the word's price is more than n for each n.
        machine = (2, 2, (0,), (0, 1), ((0, "a", 0, 0), (0, "b", 0, 1), (0, "b", 1, 3), (1, "a", 1, 3), (1, "b", 1, 2)))
        for n in range(0, 30):
            word = word_unrolled(machine, (B, ("sharp", 0)), n)
            self.assertGreater(price(machine, word), n)


if __name__ == "__main__":
    unittest.main()
