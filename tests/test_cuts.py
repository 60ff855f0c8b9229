import random
import unittest

from leasttolls.cuts import cut, end_of, first_row, led, row_of
from samples import (
    CROWDED, NAMED, NO_BEGIN, NO_DOOR, NO_END, ONE_ROOM, PLAIN, least_fee, letter_after_letter, made_machines,
    words_up_to,
)

BIG = 10 ** 59


def cut_by_the_document(number, k):
    return None if number is None else min(number, k + 1)


def first_numbers(machine):
    return [0 if room in machine[2] else None for room in range(machine[1])]


class Cuts(unittest.TestCase):
    def test_cut(self):
        for k in (0, 1, 2, 3, 17, BIG):
            self.assertIsNone(cut(None, k))
            self.assertEqual(cut(0, k), 0)
            self.assertEqual(cut(k, k), k)
            self.assertEqual(cut(k + 1, k), k + 1)
            self.assertEqual(cut(k + 2, k), k + 1)
            self.assertEqual(cut(k + 10 ** 60, k), k + 1)
            if k > 0:
                self.assertEqual(cut(k - 1, k), k - 1)

    def test_cut_at_0(self):
        self.assertEqual([cut(number, 0) for number in (None, 0, 1, 2, BIG)], [None, 0, 1, 1, 1])

    def test_cut_great_numbers(self):
        self.assertEqual(cut(BIG - 1, BIG), BIG - 1)
        self.assertEqual(cut(BIG, 5), 6)
        self.assertEqual(cut(5, BIG), 5)


class FirstRows(unittest.TestCase):
    def test_first_row(self):
        self.assertEqual(first_row(PLAIN), (0, None, None))
        self.assertEqual(first_row(NO_DOOR), (0, 0, None))
        self.assertEqual(first_row(NO_BEGIN), (None, None))
        self.assertEqual(first_row(ONE_ROOM), (0,))
        self.assertEqual(first_row(CROWDED), (0, 0, 0, 0, 0))
        self.assertIs(type(first_row(PLAIN)), tuple)


class Led(unittest.TestCase):
    def test_by_each_letter(self):
        self.assertEqual(led(PLAIN, 9, (0, 4, None), "a"), (1, 0, None))
        self.assertEqual(led(PLAIN, 9, (0, 4, None), "b"), (None, 6, 1))
        self.assertEqual(led(PLAIN, 9, (9, 4, 2), "b"), (None, 6, 7))

    def test_none_in_the_row(self):
        self.assertEqual(led(PLAIN, 9, (None, None, None), "a"), (None, None, None))
        self.assertEqual(led(PLAIN, 9, (None, None, 3), "a"), (None, None, 3))
        self.assertEqual(led(PLAIN, 9, (None, 0, None), "b"), (None, 2, 3))

    def test_k_and_more_in_the_row(self):
        machine = (1, 2, (0,), (1,), ((0, "a", 0, 0), (0, "a", 1, 1)))
        self.assertEqual(led(machine, 3, (3, None), "a"), (3, 4))
        self.assertEqual(led(machine, 3, (4, None), "a"), (4, 4))
        self.assertEqual(led(machine, 3, (2, None), "a"), (2, 3))
        self.assertEqual(led(machine, 0, (0, None), "a"), (0, 1))
        self.assertEqual(led(machine, 0, (1, 0), "a"), (1, 1))

    def test_the_least_is_taken_of_sums_not_of_cut_ones_alone(self):
        machine = (1, 3, (0,), (2,), ((0, "a", 2, 3), (1, "a", 2, 0), (1, "a", 2, 2)))
        self.assertEqual(led(machine, 5, (1, 2, None), "a"), (None, None, 2))
        self.assertEqual(led(machine, 5, (1, 5, None), "a"), (None, None, 4))
        self.assertEqual(led(machine, 2, (1, 3, None), "a"), (None, None, 3))

    def test_a_letter_without_doors(self):
        self.assertEqual(led((2, 1, (0,), (0,), ((0, "a", 0, 0),)), 4, (0,), "b"), (None,))

    def test_against_the_document(self):
        chance = random.Random(31)
        for machine in made_machines(32, 150):
            for k in (0, 1, 4, BIG):
                row = tuple(chance.choice((None, 0, k, k + 1, max(k - 1, 0))) for room in range(machine[1]))
                for letter in "abc"[:machine[0]]:
                    expected = letter_after_letter(machine, letter, row, lambda number: cut_by_the_document(number, k))
                    told = led(machine, k, row, letter)
                    self.assertIs(type(told), tuple)
                    self.assertEqual(list(told), expected)


class RowsOfWords(unittest.TestCase):
    def test_the_empty_word(self):
        for machine in NAMED:
            for k in (0, 3):
                self.assertEqual(row_of(machine, k, ""), first_row(machine))

    def test_ordinary(self):
        self.assertEqual(row_of(PLAIN, 4, "aab"), (None, 3, 3))
        self.assertEqual(row_of(PLAIN, 1, "aab"), (None, 2, 2))
        self.assertEqual(row_of(PLAIN, 0, "aab"), (None, 1, 1))

    def test_against_all_walks_cut_behind(self):
        for machine in made_machines(33, 60):
            for word in words_up_to(machine, 3):
                for k in (0, 1, 2, 5, BIG):
                    expected = tuple(
                        cut_by_the_document(least_fee(machine, word, machine[2], (room,)), k)
                        for room in range(machine[1])
                    )
                    self.assertEqual(row_of(machine, k, word), expected)

    def test_words_of_two_hundred_letters_cut_behind(self):
        chance = random.Random(34)
        for machine in made_machines(35, 60) + NAMED:
            word = "".join(chance.choice("abc"[:machine[0]]) for at in range(200))
            numbers = letter_after_letter(machine, word, first_numbers(machine), lambda number: number)
            for k in (0, 1, 40, 150, 199, 200, BIG):
                expected = tuple(cut_by_the_document(number, k) for number in numbers)
                self.assertEqual(row_of(machine, k, word), expected)

    def test_around_k(self):
        for k, number in ((198, 199), (199, 200), (200, 200), (201, 200)):
            self.assertEqual(row_of(ONE_ROOM, k, "a" * 200), (number,))


class Ends(unittest.TestCase):
    def test_the_least_at_the_ends(self):
        self.assertEqual(end_of(CROWDED, (4, 3, 5, None, 9)), 3)
        self.assertEqual(end_of(CROWDED, (None, None, None, None, 0)), 0)
        self.assertEqual(end_of(PLAIN, (0, 0, 4)), 4)
        self.assertEqual(end_of(NO_DOOR, (0, 2, 1)), 1)
        self.assertEqual(end_of(PLAIN, (0, 0, BIG)), BIG)

    def test_none(self):
        self.assertIsNone(end_of(PLAIN, (0, 0, None)))
        self.assertIsNone(end_of(NO_END, (0, 0)))
        self.assertIsNone(end_of(CROWDED, (None,) * 5))


if __name__ == "__main__":
    unittest.main()
