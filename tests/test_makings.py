import random
import unittest

from leasttolls.errors import NoMaking
from leasttolls.makings import signs_made, weights
from leasttolls.signs import sign_product, word_signs
from leasttolls.steady import sharpened
from samples import NAMED, ODD_THINGS, ONE_ROOM, PLAIN, made_machines, made_makings, step_values

A = ("letter", "a")
B = ("letter", "b")

# By a the rooms change places, so its signs are not steady; by b each stays where it is.
SWAP = (2, 2, (0,), (1,), ((0, "a", 1, 1), (1, "a", 0, 1), (0, "b", 0, 0), (1, "b", 1, 2)))


class SignsMade(unittest.TestCase):
    def refused(self, machine, thing, at):
        with self.assertRaises(NoMaking) as caught:
            signs_made(machine, thing)
        self.assertEqual(caught.exception.at, at, thing)
        self.assertIs(type(caught.exception.at), int)

    def test_ordinary(self):
        told = signs_made(SWAP, (A, B, ("pair", 0, 1), ("pair", 0, 0), ("sharp", 1), ("sharp", 3)))
        self.assertEqual(told, [
            ((3, 1), (1, 3)), ((0, 3), (3, 1)), ((3, 1), (1, 3)), ((1, 3), (3, 1)), ((0, 3), (3, 2)), ((2, 3), (3, 2)),
        ])

    def test_a_pair_goes_in_order(self):
        one = word_signs(PLAIN, "a")
        other = word_signs(PLAIN, "b")
        told = signs_made(PLAIN, (A, B, ("pair", 0, 1), ("pair", 1, 0)))
        self.assertEqual(told, [one, other, sign_product(one, other), sign_product(other, one)])
        self.assertNotEqual(told[2], told[3])

    def test_kinds(self):
        for machine in NAMED:
            told = signs_made(machine, (A, ("pair", 0, 0)))
            self.assertIs(type(told), list)
            self.assertEqual([type(signs) for signs in told], [tuple, tuple])

    def test_against_the_document(self):
        chance = random.Random(71)
        for machine in made_machines(72, 150) + NAMED:
            made = made_makings(chance, machine, chance.randint(1, 12))
            self.assertEqual(signs_made(machine, made[0]), made[1])

    def test_what_is_no_tuple_of_steps(self):
        for thing in ODD_THINGS + [[A], [A, B], "a", "letter", 0, 3]:
            self.refused(SWAP, thing, 0)

    def test_none_a_hundred_and_more(self):
        self.refused(SWAP, (), 0)
        self.assertEqual(signs_made(SWAP, (A,)), [((3, 1), (1, 3))])
        self.assertEqual(signs_made(SWAP, (A,) * 100), [((3, 1), (1, 3))] * 100)
        self.refused(SWAP, (A,) * 101, 0)
        self.refused(SWAP, (A,) * 7 + (None,) + (A,) * 93, 0)
        self.refused(SWAP, (A,) * 1999, 0)
        self.refused(SWAP, (A,) * 99 + (None,), 99)

    def test_steps_that_are_none(self):
        for thing in ODD_THINGS + [
            "", ["letter", "a"], ["pair", 0, 0], ["sharp", 0], ("letter",), ("letter", "a", 0), ("letter", "a", "a"),
            ("pair",), ("pair", 0), ("pair", 0, 0, 0), ("sharp",), ("sharp", 1, 1), ("times", 0, 2), ("Letter", "a"),
            ("letters", "a"), ("", "a"), ("a", "letter"), ("a", "a"), (0, 0), (None, 0), (["letter"], "a"),
            ("pairs", 0, 0), (True, 0, 0), ("sharpen", 1), ("letter ", "a"), ("sharp", "a"), ("pair", "a", "b"),
            ("letter", 0), ("letter", 0, 0),
        ]:
            self.refused(SWAP, (thing,), 0)
            self.refused(SWAP, (A, B, thing), 2)
            self.refused(SWAP, (A, B, thing, B), 2)

    def test_letters(self):
        for letter in ("c", "d", "A", "", "ab", "aa", "a ", None, 0, True, ["a"], ("a",), "letter"):
            self.refused(SWAP, (("letter", letter),), 0)
            self.refused(SWAP, (A, ("letter", letter)), 1)
        self.refused(ONE_ROOM, (A, B), 1)
        self.refused(ONE_ROOM, (B, A), 0)
        for machine in made_machines(73, 40):
            for at, letter in enumerate("abc"):
                if at < machine[0]:
                    self.assertEqual(signs_made(machine, (("letter", letter),)), [word_signs(machine, letter)])
                else:
                    self.refused(machine, (("letter", letter),), 0)

    def test_numbers_of_steps(self):
        # Both steps ahead are steady, so the number alone is the fault.
        for number in (2, 3, 99, -1, -2, 10 ** 59, -10 ** 59, True, False, "0", "a", None, (0,), [0], [], ()):
            self.refused(SWAP, (B, B, ("pair", number, 0)), 2)
            self.refused(SWAP, (B, B, ("pair", 0, number)), 2)
            self.refused(SWAP, (B, B, ("sharp", number)), 2)
            self.refused(SWAP, (B, B, ("sharp", number), B), 2)
        self.refused(SWAP, (("pair", 0, 0),), 0)
        self.refused(SWAP, (("sharp", 0),), 0)
        self.refused(SWAP, (("sharp", -1), B), 0)

    def test_the_same_one_twice(self):
        told = signs_made(SWAP, (B, A, ("pair", 1, 1), ("pair", 2, 2), ("pair", 0, 0)))
        self.assertEqual(told[2:], [((1, 3), (3, 1)), ((1, 3), (3, 1)), ((0, 3), (3, 1))])
        self.assertEqual(signs_made(SWAP, (B, ("sharp", 0), ("sharp", 0), ("sharp", 1)))[1:], [((0, 3), (3, 2))] * 3)

    def test_a_sharp_one_of_what_is_not_steady(self):
        self.refused(SWAP, (A, ("sharp", 0)), 1)
        self.refused(SWAP, (B, A, ("sharp", 0), ("sharp", 1), ("sharp", 0)), 3)
        self.assertEqual(len(signs_made(SWAP, (B, A, ("sharp", 0), ("pair", 1, 1), ("sharp", 3)))), 5)

    def test_the_first_of_several(self):
        self.refused(SWAP, (A, ("sharp", 0), None, ("pair", 9, 9)), 1)
        self.refused(SWAP, (A, None, ("sharp", 0)), 1)
        self.refused(SWAP, (A, B, ("pair", 2, 0), ("letter", "c"), ("sharp", 0)), 2)
        self.refused(SWAP, (A, B, ("letter", "c"), ("sharp", 0), ("pair", 4, 0)), 2)
        self.refused(SWAP, (A, B, ("sharp", 0), ("letter", "c"), []), 2)
        self.refused(SWAP, ((), (), ()), 0)

    def test_each_step_broken_in_turn(self):
        chance = random.Random(74)
        for machine in made_machines(75, 40):
            steps = made_makings(chance, machine, 10)[0]
            for at in range(10):
                for thing in (None, ("pair", at, 0), ("sharp", at), ("letter", "d"), list(steps[at])):
                    self.refused(machine, steps[:at] + (thing,) + steps[at + 1:], at)


class Weights(unittest.TestCase):
    def test_ordinary(self):
        makings = (B, A, ("pair", 0, 1), ("sharp", 0), ("pair", 2, 3), ("pair", 4, 4), ("sharp", 3))
        self.assertEqual(weights(SWAP, makings), [3, 3, 6, 6, 12, 24, 12])

    def test_against_the_document(self):
        chance = random.Random(76)
        for machine in made_machines(77, 60):
            steps = made_makings(chance, machine, 15)[0]
            expected = step_values(
                steps, lambda letter: 3, lambda one, other: one + other, lambda one, step: 2 * one,
            )
            told = weights(machine, steps)
            self.assertEqual(told, expected)
            self.assertIs(type(told), list)

    def test_a_hundred_steps(self):
        sharp = (B,) + tuple(("sharp", at) for at in range(99))
        pairs = (B,) + tuple(("pair", at, at) for at in range(99))
        for steps in (sharp, pairs):
            self.assertEqual(weights(SWAP, steps), [3 * 2 ** at for at in range(100)])


class Own(unittest.TestCase):
    def test_a_told_list_is_the_askers_own(self):
        makings = (B, ("sharp", 0), ("pair", 0, 1))
        for asked in (signs_made, weights):
            kept = list(asked(SWAP, makings))
            told = asked(SWAP, makings)
            told.append(None)
            told[0] = None
            changed = list(told)
            self.assertEqual(asked(SWAP, makings), kept)
            self.assertEqual(told, changed)

    def test_a_thing_that_was_handed_in_stays_as_it_was(self):
        thing = [["letter", "a"], ("pair", [0], [0])]
        with self.assertRaises(NoMaking):
            signs_made(SWAP, thing)
        with self.assertRaises(NoMaking):
            signs_made(SWAP, (A, thing[1]))
        self.assertEqual(thing, [["letter", "a"], ("pair", [0], [0])])

    def test_what_was_told_is_taken_again(self):
        told = signs_made(SWAP, (B,))[0]
        self.assertEqual(sharpened(told), signs_made(SWAP, (B, ("sharp", 0)))[1])


if __name__ == "__main__":
    unittest.main()
