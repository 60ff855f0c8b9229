import random
import unittest

from leasttolls.signs import end_sign, plain_signs, reading, sign_of, sign_power, sign_product, word_signs
from leasttolls.tables import letter_table, power, product, word_table
from samples import (
    CROWDED, NAMED, NO_BEGIN, NO_DOOR, NO_END, ONE_ROOM, PLAIN, made_machines, made_sign_tables, made_table,
    signs_multiplied, words_up_to,
)

BIG = 10 ** 59


class Signs(unittest.TestCase):
    def is_table(self, table, size):
        self.assertIs(type(table), tuple)
        self.assertEqual([(type(row), len(row)) for row in table], [(tuple, size)] * size)

    def test_sign_of(self):
        self.assertEqual([sign_of(number) for number in (None, 0, 1, 2, 3, BIG, 10 ** 60 - 1)], [3, 0, 1, 1, 1, 1, 1])

    def test_reading(self):
        self.assertEqual(reading(((None, 0), (1, BIG))), ((3, 0), (1, 1)))
        self.assertEqual(reading(((None,),)), ((3,),))
        chance = random.Random(51)
        for size in range(1, 6):
            table = made_table(chance, size, (None, 0, 1, 5, BIG))
            self.is_table(reading(table), size)
            self.assertEqual(reading(table), tuple(tuple(sign_of(number) for number in row) for row in table))

    def test_plain_signs(self):
        self.assertEqual(plain_signs(1), ((0,),))
        self.assertEqual(plain_signs(2), ((0, 3), (3, 0)))
        for size in range(1, 6):
            self.is_table(plain_signs(size), size)
            for i in range(size):
                self.assertEqual(list(plain_signs(size)[i]), [0 if i == j else 3 for j in range(size)])

    def test_product_at_all_signs(self):
        for one in range(4):
            for other in range(4):
                self.assertEqual(sign_product(((one,),), ((other,),)), ((max(one, other),),))
                told = sign_product(((one, other), (3, 3)), ((0, 3), (0, 3)))
                self.assertEqual(told, ((min(one, other), 3), (3, 3)))

    def test_product_against_the_document(self):
        for one, other in zip(made_sign_tables(52, 30), made_sign_tables(53, 30)):
            told = sign_product(one, other)
            self.is_table(told, len(one))
            self.assertEqual(told, signs_multiplied(one, other))
            self.assertEqual(sign_product(one, one), signs_multiplied(one, one))

    def test_product_with_the_plain_one(self):
        for table in made_sign_tables(54, 20):
            self.assertEqual(sign_product(plain_signs(len(table)), table), table)
            self.assertEqual(sign_product(table, plain_signs(len(table))), table)

    def test_the_reading_of_a_product(self):
        chance = random.Random(55)
        for at in range(150):
            size = chance.randint(1, 5)
            one = made_table(chance, size, (None, None, 0, 1, 2, BIG))
            other = made_table(chance, size, (None, None, 0, 1, 2, BIG))
            self.assertEqual(reading(product(one, other)), sign_product(reading(one), reading(other)))
            self.assertEqual(reading(power(one, BIG + at)), sign_power(reading(one), BIG + at))

    def test_small_powers(self):
        for table in made_sign_tables(56, 8):
            expected = plain_signs(len(table))
            for many in range(0, 18):
                self.assertEqual(sign_power(table, many), expected)
                expected = signs_multiplied(expected, table)

    def test_great_powers(self):
        swap = ((3, 1), (0, 3))
        self.assertEqual(sign_power(swap, BIG), ((1, 3), (3, 1)))
        self.assertEqual(sign_power(swap, BIG + 1), ((3, 1), (1, 3)))
        # A ring of five rooms comes round after five steps.
        ring = tuple(tuple(2 if j == (i + 1) % 5 else 3 for j in range(5)) for i in range(5))
        for many in (BIG, BIG + 1, BIG + 2, 10 ** 60 - 1):
            self.assertEqual(sign_power(ring, many), sign_power(ring, many % 5 + 5))
        for table in made_sign_tables(57, 4):
            told = sign_power(table, 10 ** 60 - 1)
            self.assertEqual(sign_product(told, table), sign_power(table, 10 ** 60))


class SignsOfWords(unittest.TestCase):
    def test_ordinary(self):
        self.assertEqual(word_signs(PLAIN, "a"), ((1, 0, 3), (3, 3, 3), (3, 3, 0)))
        self.assertEqual(word_signs(PLAIN, "ab"), ((3, 1, 1), (3, 3, 3), (3, 3, 3)))

    def test_the_empty_word(self):
        for machine in NAMED:
            self.assertEqual(word_signs(machine, ""), plain_signs(machine[1]))

    def test_reading_and_product_of_letters(self):
        for machine in made_machines(58, 50):
            words = list(words_up_to(machine, 4)) + [("abc"[:machine[0]] * 200)[:200]]
            for word in words:
                told = word_signs(machine, word)
                self.assertEqual(told, reading(word_table(machine, word)))
                expected = plain_signs(machine[1])
                for letter in word:
                    expected = signs_multiplied(expected, reading(letter_table(machine, letter)))
                self.assertEqual(told, expected)

    def test_end_sign(self):
        signs = ((0, 3, 2), (1, 0, 3), (3, 2, 0))
        self.assertEqual(end_sign(PLAIN, signs), 2)
        self.assertEqual(end_sign(NO_DOOR, signs), 0)
        self.assertEqual(end_sign((1, 3, (0,), (1,), ()), signs), 3)
        self.assertEqual(end_sign((1, 3, (1,), (0,), ()), signs), 1)
        self.assertEqual(end_sign((1, 3, (0, 2), (1, 2), ()), signs), 0)
        self.assertEqual(end_sign((1, 3, (0, 2), (1,), ()), signs), 2)

    def test_end_sign_at_each_sign(self):
        for sign in range(4):
            self.assertEqual(end_sign(ONE_ROOM, ((sign,),)), sign)
            self.assertEqual(end_sign(CROWDED, ((3,) * 5,) * 4 + ((3, 3, sign, 3, 3),)), sign)

    def test_no_begin_or_no_end(self):
        for machine in (NO_BEGIN, NO_END, (1, 2, (), (), ())):
            self.assertEqual(end_sign(machine, ((0, 0), (0, 0))), 3)


if __name__ == "__main__":
    unittest.main()
