import random
import unittest

from leasttolls.roads import road, toll, tolls
from leasttolls.tables import letter_table, plain, power, price, product, word_table
from samples import (
    CROWDED, NAMED, NO_BEGIN, NO_DOOR, NO_END, ONE_ROOM, PLAIN, least_fee, letter_after_letter, made_machines,
    made_table, words_up_to,
)

BIG = 10 ** 59
PRICES = (None, None, 0, 0, 1, 2, 7, BIG, BIG + 1)


def product_by_the_document(one, other):
    size = len(one)
    rows = []
    for i in range(size):
        row = []
        for j in range(size):
            sums = [one[i][k] + other[k][j] for k in range(size) if one[i][k] is not None and other[k][j] is not None]
            row.append(min(sums) if sums else None)
        rows.append(tuple(row))
    return tuple(rows)


def tables_made(seed, many):
    chance = random.Random(seed)
    return [made_table(chance, size, PRICES) for size in range(1, 6) for at in range(many)]


class Tables(unittest.TestCase):
    def is_table(self, table, size):
        self.assertIs(type(table), tuple)
        self.assertEqual([(type(row), len(row)) for row in table], [(tuple, size)] * size)

    def test_plain(self):
        self.assertEqual(plain(1), ((0,),))
        self.assertEqual(plain(2), ((0, None), (None, 0)))
        self.assertEqual(plain(3), ((0, None, None), (None, 0, None), (None, None, 0)))
        for size in range(1, 6):
            self.is_table(plain(size), size)
            for i in range(size):
                self.assertEqual([plain(size)[i][j] for j in range(size)], [0 if i == j else None for j in range(size)])

    def test_product(self):
        one = ((1, None), (0, 5))
        other = ((None, 3), (2, 0))
        self.assertEqual(product(one, other), ((None, 4), (7, 3)))
        self.assertEqual(product(other, one), ((3, 8), (0, 5)))

    def test_product_without_any_number(self):
        nothing = ((None, None), (None, None))
        one = ((0, 1), (2, 3))
        self.assertEqual(product(one, nothing), nothing)
        self.assertEqual(product(nothing, one), nothing)
        self.assertEqual(product(((None,),), ((None,),)), ((None,),))

    def test_product_of_numbers_that_miss_one_another(self):
        self.assertEqual(product(((1, None), (None, 1)), ((None, 2), (2, None))), ((None, 3), (3, None)))
        self.assertEqual(product(((0, None), (0, None)), ((None, None), (0, 0))), ((None, None), (None, None)))

    def test_product_of_free_prices(self):
        self.assertEqual(product(((0, 0), (0, 0)), ((0, 1), (2, 0))), ((0, 0), (0, 0)))

    def test_product_of_great_numbers(self):
        self.assertEqual(product(((BIG,),), ((BIG,),)), ((2 * BIG,),))
        self.assertEqual(product(((BIG, BIG + 1), (None, 0)), ((2, BIG), (0, None))), ((BIG + 1, 2 * BIG), (0, None)))

    def test_product_against_the_document(self):
        one = tables_made(11, 30)
        other = tables_made(12, 30)
        for first, second in zip(one, other):
            told = product(first, second)
            self.is_table(told, len(first))
            self.assertEqual(told, product_by_the_document(first, second))
            self.assertEqual(product(first, first), product_by_the_document(first, first))

    def test_product_with_the_plain_table(self):
        for table in tables_made(13, 20):
            self.assertEqual(product(plain(len(table)), table), table)
            self.assertEqual(product(table, plain(len(table))), table)

    def test_small_powers(self):
        for table in tables_made(14, 6):
            expected = plain(len(table))
            for many in range(0, 18):
                told = power(table, many)
                self.is_table(told, len(table))
                self.assertEqual(told, expected)
                expected = product_by_the_document(expected, table)

    def test_great_powers(self):
        many = 123456789 * 10 ** 51 + 7
        self.assertEqual(power(((3,),), many), ((3 * many,),))
        self.assertEqual(power(((None,),), many), ((None,),))
        self.assertEqual(power(((BIG,),), many), ((BIG * many,),))
        # From 0 to 1 and back it costs 3; the way that stays is dearer.
        turning = ((2, 1), (2, None))
        self.assertEqual(power(turning, 2 * BIG), ((3 * BIG, 3 * BIG), (3 * BIG + 1, 3 * BIG)))
        swap = ((None, 0), (0, None))
        self.assertEqual(power(swap, BIG), plain(2))
        self.assertEqual(power(swap, BIG + 1), swap)

    def test_powers_of_a_sum(self):
        chance = random.Random(15)
        for table in tables_made(16, 5):
            for top in (5, 1000, 10 ** 59):
                one = chance.randint(0, top)
                other = chance.randint(0, top)
                self.assertEqual(power(table, one + other), product(power(table, one), power(table, other)))


class WordTables(unittest.TestCase):
    def test_letters(self):
        self.assertEqual(letter_table(PLAIN, "a"), ((1, 0, None), (None, None, None), (None, None, 0)))
        self.assertEqual(letter_table(PLAIN, "b"), ((None, None, 1), (None, 2, 3), (None, None, None)))

    def test_the_least_of_alike_doors(self):
        for fees in ((3, 1, 2), (1, 2, 3), (2, 3, 1), (0, 3, 3), (1, 1, 1)):
            machine = (1, 1, (0,), (0,), tuple((0, "a", 0, fee) for fee in fees))
            self.assertEqual(letter_table(machine, "a"), ((min(fees),),))

    def test_no_doors(self):
        self.assertEqual(letter_table(NO_DOOR, "b"), ((None,) * 3,) * 3)
        self.assertEqual(word_table(NO_DOOR, "ab"), ((None,) * 3,) * 3)
        self.assertEqual(letter_table((2, 1, (0,), (0,), ((0, "a", 0, 0),)), "b"), ((None,),))

    def test_the_empty_word(self):
        for machine in NAMED:
            self.assertEqual(word_table(machine, ""), plain(machine[1]))

    def test_against_all_walks(self):
        for machine in made_machines(17, 60) + [PLAIN, NO_BEGIN, NO_END, NO_DOOR, ONE_ROOM]:
            rooms = range(machine[1])
            for word in words_up_to(machine, 3):
                expected = tuple(tuple(least_fee(machine, word, (i,), (j,)) for j in rooms) for i in rooms)
                self.assertEqual(word_table(machine, word), expected)
                if len(word) == 1:
                    self.assertEqual(letter_table(machine, word), expected)

    def test_the_product_of_its_letters(self):
        for machine in made_machines(18, 30):
            for word in words_up_to(machine, 4):
                expected = plain(machine[1])
                for letter in word:
                    expected = product(expected, letter_table(machine, letter))
                self.assertEqual(word_table(machine, word), expected)

    def test_words_of_two_hundred_letters(self):
        for machine in made_machines(19, 30) + NAMED:
            word = ("abc"[:machine[0]] * 200)[:200]
            table = word_table(machine, word)
            for i in range(machine[1]):
                first = [0 if room == i else None for room in range(machine[1])]
                self.assertEqual(list(table[i]), letter_after_letter(machine, word, first, lambda number: number))


class Prices(unittest.TestCase):
    def test_ordinary(self):
        self.assertEqual(price(PLAIN, "b"), 1)
        self.assertEqual(price(PLAIN, "ab"), 2)
        self.assertEqual(price(PLAIN, "abb"), 5)
        self.assertEqual(price(PLAIN, "baaa"), 1)
        self.assertIsNone(price(PLAIN, "a"))
        self.assertIsNone(price(PLAIN, "bb"))

    def test_the_empty_word(self):
        for machine in NAMED + made_machines(20, 100):
            both = set(machine[2]) & set(machine[3])
            self.assertEqual(price(machine, ""), 0 if both else None)

    def test_no_begin_no_end_no_door(self):
        for machine in (NO_BEGIN, NO_END, NO_DOOR):
            self.assertIsNone(price(machine, "a"))
            self.assertIsNone(price(machine, "a" * 200))

    def test_against_all_roads(self):
        for machine in made_machines(21, 100):
            for word in words_up_to(machine, 4):
                self.assertEqual(price(machine, word), least_fee(machine, word, machine[2], machine[3]))

    def test_with_the_road_and_the_tolls(self):
        for machine in made_machines(22, 60) + NAMED:
            letters = "abc"[:machine[0]]
            for word in ["", letters, letters * 3, "a" * 24, (letters * 24)[:24], "a" + letters[-1] * 20]:
                told = price(machine, word)
                way = road(machine, word)
                self.assertEqual(told, None if way is None else toll(machine, way))
                self.assertEqual(tolls(machine, word)[:1], [] if told is None else [told])

    def test_words_of_two_hundred_letters(self):
        self.assertEqual(price(ONE_ROOM, "a" * 200), 200)
        word = "abc" * 66 + "ab"
        self.assertEqual(price(CROWDED, word), toll(CROWDED, road(CROWDED, word)))


if __name__ == "__main__":
    unittest.main()
