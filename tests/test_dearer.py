import random
import unittest

from leasttolls.dearer import dearer
from leasttolls.errors import NoPair, TollError
from samples import CROWDED, NO_BEGIN, NO_END, PLAIN, least_number, machine_with, words_up_to

BIG = 10 ** 30


def expected(one, other, times, long):
    for word in words_up_to(other, long):
        here = least_number(one, word)
        there = least_number(other, word)
        if there is not None and (here is None or here > times * there):
            return word
    return None


class Dearer(unittest.TestCase):
    def test_ordinary(self):
        one = (2, 1, (0,), (0,), ((0, "a", 0, 2), (0, "b", 0, 1)))
        other = (2, 1, (0,), (0,), ((0, "a", 0, 1), (0, "b", 0, 1)))
        self.assertEqual(dearer(one, other, 1, 5), "a")
        self.assertIsNone(dearer(one, other, 2, 5))
        self.assertIsNone(dearer(other, one, 1, 5))

    def test_just_times_the_price_is_not_above_it(self):
        one = (1, 1, (0,), (0,), ((0, "a", 0, 3),))
        other = (1, 1, (0,), (0,), ((0, "a", 0, 1),))
        self.assertEqual([dearer(one, other, times, 5) for times in range(5)], ["a", "a", "a", None, None])

    def test_times_0(self):
        free = (1, 1, (0,), (0,), ((0, "a", 0, 0),))
        costly = (1, 1, (0,), (0,), ((0, "a", 0, 1),))
        self.assertIsNone(dearer(free, costly, 0, 5))
        self.assertEqual(dearer(costly, free, 0, 5), "a")
        self.assertEqual(dearer(costly, costly, 0, 5), "a")
        self.assertIsNone(dearer(costly, costly, 0, 0))

    def test_a_price_of_0_times_anything(self):
        free = (1, 1, (0,), (0,), ((0, "a", 0, 0),))
        costly = (1, 2, (0,), (0, 1), ((0, "a", 1, 0), (1, "a", 1, 1)))
        self.assertEqual(dearer(costly, free, BIG, 5), "aa")
        self.assertIsNone(dearer(free, costly, BIG, 5))

    def test_by_length_and_then_as_texts(self):
        # Dear are ba, ab and aaa: ab is the first.
        doors = ((0, "a", 1, 0), (0, "b", 2, 0), (1, "b", 3, 1), (2, "a", 3, 1), (1, "a", 4, 0), (4, "a", 3, 1))
        one = (2, 5, (0,), (3,), doors)
        other = (2, 5, (0,), (3,), tuple(door[:3] + (0,) for door in doors))
        self.assertEqual(dearer(one, other, 1, 5), "ab")
        without_ab = tuple(door for door in doors if door[:2] != (1, "b"))
        self.assertEqual(dearer((2, 5, (0,), (3,), without_ab), other, 1, 5), "ab")
        both_without = tuple(door for door in other[4] if door[:2] != (1, "b"))
        self.assertEqual(dearer(one, (2, 5, (0,), (3,), both_without), 1, 5), "ba")

    def test_a_word_that_the_one_does_not_let_by(self):
        every = (3, 1, (0,), (0,), ((0, "a", 0, 3), (0, "b", 0, 3), (0, "c", 0, 3)))
        no_c = (3, 1, (0,), (0,), ((0, "a", 0, 0), (0, "b", 0, 0)))
        self.assertEqual(dearer(no_c, every, BIG, 5), "c")
        self.assertIsNone(dearer(every, no_c, BIG, 0))
        self.assertEqual(dearer(every, no_c, BIG, 1), "a")

    def test_a_word_that_the_other_does_not_let_by_is_none(self):
        step = (1, 2, (0,), (1,), ((0, "a", 1, 3),))
        self.assertIsNone(dearer(step, NO_BEGIN, 0, 5))
        self.assertIsNone(dearer(step, NO_END, 0, 5))
        self.assertIsNone(dearer(NO_BEGIN, NO_BEGIN, 0, 5))
        self.assertEqual(dearer(NO_BEGIN, step, 0, 5), "a")

    def test_long(self):
        # The first dear word has just five letters.
        doors = tuple((room, "a", room + 1, 0) for room in range(4)) + ((4, "a", 4, 1),)
        one = (2, 5, (0,), (0, 1, 2, 3, 4), doors)
        other = (2, 1, (0,), (0,), ((0, "a", 0, 0),))
        for long in range(5):
            self.assertIsNone(dearer(one, other, BIG, long))
        self.assertEqual(dearer(one, other, BIG, 5), "aaaaa")

    def test_the_empty_word(self):
        empty = (1, 1, (0,), (0,), ())
        none = (1, 1, (), (0,), ())
        for long in range(6):
            self.assertEqual(dearer(none, empty, BIG, long), "")
            self.assertIsNone(dearer(empty, none, 0, long))
            self.assertIsNone(dearer(empty, empty, 0, long))

    def test_against_words_one_by_one(self):
        chance = random.Random(241)
        found = set()
        for at in range(400):
            letters = chance.randint(1, 3)
            one = machine_with(chance, letters, chance.randint(1, 5), 3, 40)
            other = machine_with(chance, letters, chance.randint(1, 5), 3, 15)
            for times in (0, 1, chance.randint(2, 5), BIG):
                for long in (chance.randint(0, 4), 5 if at < 60 else 3):
                    told = dearer(one, other, times, long)
                    self.assertEqual(told, expected(one, other, times, long), (one, other, times, long))
                    found.add(None if told is None else len(told))
        self.assertLessEqual({None, 0, 1, 2, 3}, found)

    def test_crowded(self):
        for times in (0, 1, 2, BIG):
            dear = CROWDED[:4] + (tuple(door[:3] + (3,) for door in CROWDED[4]),)
            self.assertEqual(dearer(CROWDED, dear, times, 5), expected(CROWDED, dear, times, 5))
            self.assertEqual(dearer(dear, CROWDED, times, 5), expected(dear, CROWDED, times, 5))

    def test_somewhat_longer(self):
        self.assertEqual(dearer(PLAIN, PLAIN, 0, 7), expected(PLAIN, PLAIN, 0, 7))
        self.assertIsNone(dearer(PLAIN, PLAIN, 1, 8))

    def test_letters_that_differ(self):
        for letters in (1, 2, 3):
            for other_letters in (1, 2, 3):
                one = (letters, 1, (0,), (0,), ())
                other = (other_letters, 1, (0,), (0,), ())
                for times, long in ((0, 0), (1, 5)):
                    if letters == other_letters:
                        self.assertIsNone(dearer(one, other, times, long))
                    else:
                        with self.assertRaises(TollError) as caught:
                            dearer(one, other, times, long)
                        self.assertIs(type(caught.exception), NoPair)


if __name__ == "__main__":
    unittest.main()
