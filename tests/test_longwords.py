import random
import unittest

from leasttolls.errors import TooLong
from leasttolls.longwords import is_recipe, letter_at, long_length, long_price, long_table, long_word
from leasttolls.tables import letter_table, power, price, product, word_table
from samples import (
    CROWDED, NAMED, NO_BEGIN, NO_DOOR, NO_END, ODD_THINGS, ONE_ROOM, PLAIN, least_numbers, made_machines, made_recipe,
    recipe_lengths, recipe_words, step_values,
)

A = ("letter", "a")
B = ("letter", "b")
C = ("letter", "c")
BIG = 10 ** 30

# Sixty steps, fifty-nine of them times as many as may be.
TOWER = (A,) + tuple(("times", at, BIG) for at in range(59))


class Recipes(unittest.TestCase):
    def yes(self, thing):
        self.assertIs(is_recipe(thing), True, thing)

    def no(self, thing):
        self.assertIs(is_recipe(thing), False, thing)

    def test_ordinary(self):
        self.yes((A,))
        self.yes((A, B, C, ("pair", 0, 1), ("pair", 3, 3), ("times", 4, 7), ("times", 0, BIG), ("pair", 6, 2)))
        self.yes((A, ("times", 0, 1)))

    def test_made_ones(self):
        chance = random.Random(101)
        for many in range(1, 61):
            self.yes(made_recipe(chance, 3, many, (1, 2, BIG)))

    def test_what_is_no_tuple_of_steps(self):
        for thing in ODD_THINGS + [[A], [A, B], "", "a", "abc", 0, 3, ("letter", "a")]:
            self.no(thing)

    def test_none_sixty_and_more(self):
        self.no(())
        self.yes((A,) * 60)
        self.no((A,) * 61)
        self.no((A,) * 600)
        self.yes(TOWER)
        self.no(TOWER + (("times", 59, 1),))

    def test_steps_that_are_none(self):
        for thing in ODD_THINGS + [
            "", ["letter", "a"], ["pair", 0, 0], ["times", 0, 2], ("letter",), ("letter", "a", "a"), ("letter", "a", 1),
            ("pair",), ("pair", 0), ("pair", 0, 0, 0), ("times",), ("times", 0), ("times", 0, 2, 2), ("sharp", 0),
            ("Letter", "a"), ("letters", "a"), ("", "a"), ("a", "letter"), (0, 0, 0), (None, 0, 1), (["pair"], 0, 0),
            ("time", 0, 2), (True, 0), ("times ", 0, 2), ("letter", 0), ("pair", "a", "a"),
        ]:
            self.no((thing,))
            self.no((A, B, thing))
            self.no((A, B, thing, A))

    def test_letters(self):
        for letter in "abc":
            self.yes((("letter", letter),))
        for letter in ("d", "A", "", "ab", "abc", "a ", None, 0, True, ["a"], ("a",), "letter"):
            self.no((("letter", letter),))
            self.no((A, ("letter", letter)))

    def test_numbers_of_steps(self):
        for number in (0, 1):
            self.yes((A, B, ("pair", number, 0)))
            self.yes((A, B, ("pair", 0, number)))
            self.yes((A, B, ("times", number, 2)))
        for number in (2, 3, -1, -2, BIG, -BIG, True, False, "0", None, (0,), [0], [], ()):
            self.no((A, B, ("pair", number, 0)))
            self.no((A, B, ("pair", 0, number)))
            self.no((A, B, ("times", number, 2)))
            self.no((A, B, ("times", number, 2), C))
        self.no((("pair", 0, 0),))
        self.no((("times", 0, 2),))
        self.no((("times", -1, 2), A))

    def test_many(self):
        for many in (1, 2, BIG - 1, BIG):
            self.yes((A, ("times", 0, many)))
        for many in (0, -1, BIG + 1, 10 ** 59, True, False, None, "2", (2,), [2]):
            self.no((A, ("times", 0, many)))
            self.no((A, ("times", 0, many), B))

    def test_a_fault_anywhere(self):
        for at in range(60):
            self.no(TOWER[:at] + (None,) + TOWER[at + 1:])


class Lengths(unittest.TestCase):
    def test_ordinary(self):
        self.assertEqual(long_length((A,)), 1)
        self.assertEqual(long_length((A, ("pair", 0, 0), ("times", 1, 7), ("pair", 2, 0))), 15)
        self.assertEqual(long_length((A, ("times", 0, 1))), 1)

    def test_of_the_last_step(self):
        self.assertEqual(long_length((A, ("times", 0, BIG), B)), 1)

    def test_sixty_steps(self):
        self.assertEqual(long_length(TOWER) == BIG ** 59, True)
        self.assertEqual(long_length((A,) + tuple(("pair", at, at) for at in range(59))), 2 ** 59)

    def test_against_the_document(self):
        chance = random.Random(102)
        for at in range(150):
            recipe = made_recipe(chance, 3, chance.randint(1, 60), (1, 2, 3, BIG - 1, BIG))
            self.assertEqual(long_length(recipe) == recipe_lengths(recipe)[-1], True)


class Letters(unittest.TestCase):
    def test_each_place_of_words_written_out(self):
        chance = random.Random(103)
        asked = 0
        for at in range(200):
            recipe = made_recipe(chance, 3, chance.randint(1, 8), (1, 2, 3, 5))
            if recipe_lengths(recipe)[-1] <= 600:
                word = recipe_words(recipe)[-1]
                self.assertEqual("".join(letter_at(recipe, place) for place in range(len(word))), word)
                asked += 1
        self.assertGreater(asked, 150)

    def test_where_it_could_never_be_written_out(self):
        # a, then b as often as may be, then c; and that again and again.
        recipe = (A, B, C, ("times", 1, BIG), ("pair", 0, 3), ("pair", 4, 2), ("times", 5, BIG - 1))
        one = BIG + 2
        self.assertEqual(long_length(recipe), one * (BIG - 1))
        for rounds in (0, 1, 7, BIG // 2, BIG - 3, BIG - 2):
            first = rounds * one
            told = [letter_at(recipe, first + place) for place in (0, 1, 2, BIG // 3, BIG - 1, BIG, BIG + 1)]
            self.assertEqual(told, ["a", "b", "b", "b", "b", "b", "c"])
        self.assertEqual(letter_at(recipe, one * (BIG - 1) - 1), "c")

    def test_sixty_steps(self):
        recipe = (A, B, ("pair", 0, 1)) + tuple(("times", at, BIG) for at in range(2, 59))
        self.assertEqual(len(recipe), 60)
        for place in (0, 2, BIG, 10 ** 60 - 2):
            self.assertEqual(letter_at(recipe, place), "a")
            self.assertEqual(letter_at(recipe, place + 1), "b")
        halves = (A,) + tuple(("pair", at, at) for at in range(57)) + (B, ("pair", 57, 58))
        self.assertEqual([letter_at(halves, place) for place in (0, 2 ** 57 - 1, 2 ** 57)], ["a", "a", "b"])


class Words(unittest.TestCase):
    def test_ordinary(self):
        self.assertEqual(long_word((A, B, ("pair", 0, 1), ("times", 2, 3), ("pair", 3, 0))), "abababa")

    def test_against_the_document(self):
        chance = random.Random(104)
        refused = 0
        for at in range(300):
            recipe = made_recipe(chance, 3, chance.randint(1, 20), (1, 2, 3, 7, 20, 60))
            if recipe_lengths(recipe)[-1] > 2000:
                refused += 1
                with self.assertRaises(TooLong):
                    long_word(recipe)
            elif max(recipe_lengths(recipe)) <= 10 ** 6:
                self.assertEqual(long_word(recipe), recipe_words(recipe)[-1])
        self.assertGreater(refused, 5)

    def test_two_thousand(self):
        self.assertEqual(long_word((A, ("times", 0, 2000))), "a" * 2000)
        self.assertEqual(long_word((A, B, ("times", 0, 1999), ("pair", 2, 1))), "a" * 1999 + "b")
        self.assertEqual(long_word((A, B, ("pair", 0, 1), ("times", 2, 1000))), "ab" * 1000)
        for recipe in (
            (A, ("times", 0, 2001)),
            (A, B, ("times", 0, 2000), ("pair", 2, 1)),
            (A, B, ("times", 0, 2000), ("pair", 1, 2)),
            (A, ("times", 0, 667), ("times", 1, 3)),
            (A, ("times", 0, 3), ("times", 1, 667)),
        ):
            self.assertEqual(long_length(recipe), 2001)
            with self.assertRaises(TooLong):
                long_word(recipe)

    def test_far_more(self):
        for recipe in (TOWER, TOWER[:2], TOWER[:3], (A,) + tuple(("pair", at, at) for at in range(59))):
            with self.assertRaises(TooLong):
                long_word(recipe)

    def test_a_long_word_that_the_last_one_is_not_made_of(self):
        self.assertEqual(long_word(TOWER[:57] + (B, C, ("pair", 57, 58))), "bc")


class Tables(unittest.TestCase):
    def test_ordinary(self):
        recipe = (A, B, ("times", 0, BIG), ("pair", 2, 1))
        machine = (2, 2, (0,), (1,), ((0, "a", 0, 1), (0, "a", 1, 3), (0, "b", 1, 0)))
        self.assertEqual(long_table(machine, recipe), ((None, BIG), (None, None)))
        self.assertEqual(long_price(machine, recipe), BIG)
        self.assertEqual(long_price(machine, recipe[:3]), BIG + 2)
        self.assertIsNone(long_price(machine, recipe + (("pair", 3, 3),)))

    def test_as_the_words_own(self):
        chance = random.Random(105)
        asked = 0
        for machine in made_machines(106, 200) + NAMED:
            recipe = made_recipe(chance, machine[0], chance.randint(1, 8), (1, 2, 3, 6))
            if max(recipe_lengths(recipe)) <= 2000:
                word = recipe_words(recipe)[-1]
                told = long_table(machine, recipe)
                self.assertEqual(told, least_numbers(machine, word))
                self.assertEqual(told, word_table(machine, word))
                self.assertEqual(long_price(machine, recipe), price(machine, word))
                asked += 1
        self.assertGreater(asked, 150)

    def test_far_too_many_letters(self):
        chance = random.Random(107)
        for machine in made_machines(108, 40) + [PLAIN, CROWDED]:
            recipe = made_recipe(chance, machine[0], 14, (2, 3, BIG - 1, BIG))
            made = step_values(
                recipe, lambda letter: letter_table(machine, letter), product, lambda one, step: power(one, step[2]),
            )
            self.assertEqual(long_table(machine, recipe), made[-1])
            numbers = [made[-1][i][j] for i in machine[2] for j in machine[3] if made[-1][i][j] is not None]
            self.assertEqual(long_price(machine, recipe), min(numbers, default=None))

    def test_twelve_of_times(self):
        recipe = (A,) + tuple(("times", at, BIG) for at in range(12))
        self.assertEqual(long_price(ONE_ROOM, recipe) == BIG ** 12, True)
        ring = (1, 5, (0,), (0,), tuple((room, "a", (room + 1) % 5, room % 4) for room in range(5)))
        self.assertEqual(long_price(ring, recipe) == 6 * (BIG ** 12 // 5), True)
        self.assertIsNone(long_price(ring, recipe + (("pair", 12, 0),)))

    def test_no_road(self):
        recipe = (A, ("times", 0, BIG))
        for machine in (NO_BEGIN, NO_END, NO_DOOR):
            self.assertIsNone(long_price(machine, recipe))
        self.assertEqual(long_table(NO_DOOR, recipe), ((None,) * 3,) * 3)


if __name__ == "__main__":
    unittest.main()
