import itertools
import unittest

from leasttolls.errors import NotSteady
from leasttolls.signs import plain_signs, sign_power, sign_product
from leasttolls.steady import is_steady, sharpened, steady_power
from samples import made_sign_tables, signs_multiplied, signs_sharpened, steady_sign_tables


def all_tables_of_two():
    return [((a, b), (c, d)) for a, b, c, d in itertools.product(range(4), repeat=4)]


def rings(longs, sign, size):
    """Rings of doors side by side, each of so many rooms; the rooms that are left have no door."""
    table = [[3] * size for at in range(size)]
    first = 0
    for long in longs:
        for at in range(long):
            table[first + at][first + (at + 1) % long] = sign
        first += long
    return tuple(tuple(row) for row in table)


class Steady(unittest.TestCase):
    def test_one_room(self):
        for sign in range(4):
            self.assertIs(is_steady(((sign,),)), True)

    def test_two_rooms(self):
        for signs in all_tables_of_two():
            self.assertIs(is_steady(signs), signs_multiplied(signs, signs) == signs, signs)

    def test_each_size_has_both(self):
        for size in range(1, 6):
            self.assertIs(is_steady(plain_signs(size)), True)
            for sign in range(4):
                self.assertIs(is_steady(((sign,) * size,) * size), True)
        for size in range(2, 6):
            for sign in range(3):
                self.assertIs(is_steady(rings([size], sign, size)), False)

    def test_against_the_document(self):
        for signs in made_sign_tables(61, 60):
            self.assertIs(is_steady(signs), signs_multiplied(signs, signs) == signs)
        for signs in steady_sign_tables(62, 30):
            self.assertIs(is_steady(signs), True)

    def test_one_sign_off(self):
        # The product is less at one place alone, or greater at one place alone.
        self.assertIs(is_steady(((0, 0, 1), (3, 0, 0), (3, 3, 0))), False)
        self.assertIs(is_steady(((0, 0, 0), (3, 0, 0), (3, 3, 0))), True)
        self.assertIs(is_steady(((3, 0), (3, 3))), False)


class Sharpened(unittest.TestCase):
    def test_the_round(self):
        self.assertEqual([sharpened(((sign,),)) for sign in range(4)], [((0,),), ((2,),), ((2,),), ((3,),)])

    def test_all_signs_on_the_way_round(self):
        # The way in, the round and the way out: each of the three is the greatest somewhere.
        self.assertEqual(sharpened(((0, 1), (3, 1))), ((0, 1), (3, 2)))
        self.assertEqual(sharpened(((1, 1), (3, 0))), ((2, 1), (3, 0)))
        self.assertEqual(sharpened(((1, 1), (3, 1))), ((2, 2), (3, 2)))
        self.assertEqual(sharpened(((1, 2), (3, 0))), ((2, 2), (3, 0)))
        self.assertEqual(sharpened(((3, 0), (3, 0))), ((3, 0), (3, 0)))
        self.assertEqual(sharpened(((3, 1), (3, 1))), ((3, 2), (3, 2)))
        self.assertEqual(sharpened(((2, 2), (3, 3))), ((2, 2), (3, 3)))
        self.assertEqual(sharpened(((1, 1, 1), (3, 0, 1), (3, 3, 1))), ((2, 1, 1), (3, 0, 1), (3, 3, 2)))

    def test_two_rooms(self):
        for signs in all_tables_of_two():
            expected = signs_sharpened(signs)
            if expected is None:
                with self.assertRaises(NotSteady):
                    sharpened(signs)
            else:
                self.assertEqual(sharpened(signs), expected, signs)

    def test_against_the_document(self):
        for signs in steady_sign_tables(63, 60):
            told = sharpened(signs)
            self.assertEqual(told, signs_sharpened(signs))
            self.assertEqual([type(told)] + [type(row) for row in told], [tuple] * (len(signs) + 1))

    def test_what_is_not_steady(self):
        refused = 0
        for signs in made_sign_tables(64, 40):
            if signs_sharpened(signs) is None:
                refused += 1
                with self.assertRaises(NotSteady):
                    sharpened(signs)
        self.assertGreater(refused, 50)
        for size in range(2, 6):
            with self.assertRaises(NotSteady):
                sharpened(rings([size], 1, size))

    def test_the_laws(self):
        for signs in steady_sign_tables(65, 60) + [one for one in all_tables_of_two() if is_steady(one)]:
            told = sharpened(signs)
            self.assertIs(is_steady(told), True)
            self.assertEqual(sharpened(told), told)
            self.assertEqual(sign_product(told, signs), told)
            self.assertEqual(sign_product(signs, told), told)


class SteadyPower(unittest.TestCase):
    def test_of_a_steady_one(self):
        for signs in steady_sign_tables(66, 20):
            self.assertEqual(steady_power(signs), (1, signs))

    def test_rings(self):
        for longs, many in (([2], 2), ([3], 3), ([4], 4), ([5], 5), ([2, 3], 6), ([2, 2], 2), ([1], 1), ([4, 1], 4)):
            for size in range(sum(longs), 6):
                for sign in range(3):
                    signs = rings(longs, sign, size)
                    expected = tuple(
                        tuple(sign if i == j and i < sum(longs) else 3 for j in range(size)) for i in range(size)
                    )
                    self.assertEqual(steady_power(signs), (many, expected), (longs, size, sign))

    def test_a_way_without_rings(self):
        for size in range(1, 6):
            chain = tuple(tuple(1 if j == i + 1 else 3 for j in range(size)) for i in range(size))
            self.assertEqual(steady_power(chain), (size, ((3,) * size,) * size))

    def test_a_late_one(self):
        # A ring of five with one way that is shorter by one: all rooms are led to all only after seventeen steps.
        late = [list(row) for row in rings([5], 0, 5)]
        late[4][1] = 0
        self.assertEqual(steady_power(tuple(tuple(row) for row in late)), (17, ((0,) * 5,) * 5))

    def test_the_least_from_the_first_on(self):
        for signs in made_sign_tables(67, 40):
            told = steady_power(signs)
            self.assertEqual((type(told), len(told), type(told[0])), (tuple, 2, int))
            self.assertEqual(told[1], sign_power(signs, told[0]))
            self.assertGreaterEqual(told[0], 1)
            power = signs
            for at in range(1, told[0]):
                self.assertNotEqual(signs_multiplied(power, power), power)
                power = signs_multiplied(power, signs)
            self.assertEqual(told[1], power)
            self.assertEqual(signs_multiplied(power, power), power)


if __name__ == "__main__":
    unittest.main()
