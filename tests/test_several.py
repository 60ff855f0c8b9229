import random
import unittest

from leasttolls.errors import NoPair, TollError, TooMuch
from leasttolls.machines import is_machine
from leasttolls.several import behind, lesser, summed, turned
from leasttolls.tables import price
from samples import (
    CROWDED, NAMED, NO_BEGIN, NO_DOOR, NO_END, ONE_ROOM, PLAIN, least_number, letter_after_letter, machine_with,
    made_machines, made_word, words_up_to,
)

MULTIPLIED = [(1, 1), (1, 2), (1, 3), (1, 4), (1, 5), (2, 1), (2, 2), (3, 1), (4, 1), (5, 1)]
THREE = [(0, 3), (1, 2), (2, 1), (3, 0)]
ANY = [(3, 3)]
TOGETHER = [(1, 1), (1, 2), (1, 3), (1, 4), (2, 1), (2, 2), (2, 3), (3, 1), (3, 2), (4, 1)]


def made_pairs(seed, sizes, tolls, most_doors=12, many=4):
    """Pairs of machines that know as many letters, with the greatest tolls as one of those told."""
    chance = random.Random(seed)
    found = []
    for rooms, other_rooms in sizes * many:
        letters = chance.randint(1, 3)
        fee, other_fee = chance.choice(tolls)
        one = machine_with(chance, letters, rooms, fee, most_doors)
        other = machine_with(chance, letters, other_rooms, other_fee, most_doors)
        found.append((one, other))
    return found


def with_75_doors(chance, machine, fee):
    """The machine with just 75 doors, alike ones among them."""
    return machine[:4] + (tuple(
        (chance.randrange(machine[1]), chance.choice("abc"[:machine[0]]), chance.randrange(machine[1]),
         chance.randint(0, fee))
        for at in range(75)
    ),)


def crowded_pairs(seed, sizes, fee, other_fee):
    chance = random.Random(seed)
    return [
        (with_75_doors(chance, one, fee), with_75_doors(chance, other, other_fee))
        for one, other in made_pairs(seed, sizes, [(0, 0)], many=1)
    ]


def both(one, other):
    return None if one is None or other is None else one + other


def lower(numbers):
    return min((number for number in numbers if number is not None), default=None)


def beginnings(machine, word):
    """The price of each beginning of a word, by doors alone."""
    numbers = [0 if room in machine[2] else None for room in range(machine[1])]
    told = [lower(numbers[room] for room in machine[3])]
    for letter in word:
        numbers = letter_after_letter(machine, letter, numbers, lambda number: number)
        told.append(lower(numbers[room] for room in machine[3]))
    return told


def sum_price(one, other, word):
    return both(least_number(one, word), least_number(other, word))


def lesser_price(one, other, word):
    return lower([least_number(one, word), least_number(other, word)])


def behind_price(one, other, word):
    starts = beginnings(one, word)
    return lower(both(starts[cut], least_number(other, word[cut:])) for cut in range(len(word) + 1))


class Brought(unittest.TestCase):
    def check(self, machine, letters, expected, long=4, words=()):
        self.assertIs(is_machine(machine), True, machine)
        self.assertEqual(machine[0], letters)
        for word in list(words_up_to(machine, long)) + list(words):
            told = expected(word)
            self.assertEqual(least_number(machine, word), told, (machine, word))
            self.assertEqual(price(machine, word), told)

    def check_pairs(self, bring, expected, pairs, long=3, words=()):
        some = 0
        for one, other in pairs:
            known = [word for word in words if set(word) <= set("abc"[:one[0]])]
            self.check(bring(one, other), one[0], lambda word: expected(one, other, word), long, known)
            self.check(bring(other, one), one[0], lambda word: expected(other, one, word), long, known)
            some += len([word for word in words_up_to(one, 2) if expected(one, other, word) is not None])
        return some

    def refused(self, refusal, bring, one, other):
        with self.assertRaises(TollError) as caught:
            bring(one, other)
        self.assertIs(type(caught.exception), refusal)


def long_words(seed, longs):
    chance = random.Random(seed)
    return [made_word(chance, letters, long) for letters in (1, 2, 3) for long in longs]


class Summed(Brought):
    def test_ordinary(self):
        one = (2, 1, (0,), (0,), ((0, "a", 0, 1), (0, "b", 0, 0)))
        other = (2, 2, (0,), (1,), ((0, "a", 1, 2), (1, "b", 1, 0), (0, "b", 0, 1)))
        machine = summed(one, other)
        self.assertEqual([price(machine, word) for word in ("", "a", "b", "ba", "bab", "aa")],
                         [None, 3, None, 4, 4, None])

    def test_the_sum_and_none_where_one_has_none(self):
        pairs = made_pairs(201, MULTIPLIED, THREE, 24, 6)
        self.assertGreater(self.check_pairs(summed, sum_price, pairs, words=long_words(1, (7, 60))), 100)

    def test_words_of_two_hundred_letters(self):
        self.check_pairs(summed, sum_price, made_pairs(202, MULTIPLIED, THREE, 40, 1), 1, long_words(2, (199, 200)))

    def test_parts_with_75_doors(self):
        self.check_pairs(summed, sum_price, crowded_pairs(203, MULTIPLIED, 1, 2), 2, long_words(3, (30,)))

    def test_no_doors_no_begins_no_ends(self):
        one = (1, 2, (0, 1), (0,), ((0, "a", 1, 1), (1, "a", 0, 2)))
        for other in (NO_BEGIN, NO_END, (1, 2, (0,), (0,), ()), (1, 2, (0,), (1,), ()), (1, 1, (), (), ())):
            cheap = other[:4] + (tuple(door[:3] + (0,) for door in other[4]),)
            self.check_pairs(summed, sum_price, [(one, cheap), (cheap, cheap)])

    def test_one_machine_twice(self):
        for one, other in made_pairs(204, [(2, 2), (1, 1)], [(1, 1)]):
            self.check(summed(one, one), one[0], lambda word: sum_price(one, one, word))

    def test_too_many_rooms(self):
        for rooms, other_rooms in MULTIPLIED:
            summed((1, rooms, (), (), ()), (1, other_rooms, (), (), ()))
        for rooms, other_rooms in [(2, 3), (3, 2), (3, 3), (2, 4), (5, 2), (2, 5), (5, 5), (3, 4)]:
            self.refused(TooMuch, summed, (1, rooms, (), (), ()), (1, other_rooms, (), (), ()))

    def test_too_great_tolls(self):
        def with_toll(fee):
            return (2, 1, (0,), (0,), ((0, "a", 0, 0), (0, "b", 0, fee), (0, "a", 0, 0)))

        for fee in range(4):
            for other_fee in range(4):
                if fee + other_fee <= 3:
                    machine = summed(with_toll(fee), with_toll(other_fee))
                    self.assertEqual(price(machine, "bab"), 2 * (fee + other_fee))
                else:
                    self.refused(TooMuch, summed, with_toll(fee), with_toll(other_fee))

    def test_no_doors_are_no_toll(self):
        bare = (2, 1, (0,), (0,), ())
        dear = (2, 1, (0,), (0,), ((0, "a", 0, 3),))
        for machine in (summed(bare, dear), summed(dear, bare), summed(bare, bare)):
            self.check(machine, 2, lambda word: 0 if word == "" else None)

    def test_the_greatest_toll_counts_though_no_road_takes_it(self):
        # The dear door stands beside an alike one that takes nothing; of the other no word has its letter.
        one = (2, 1, (0,), (0,), ((0, "a", 0, 3), (0, "a", 0, 0)))
        other = (2, 1, (0,), (0,), ((0, "b", 0, 1),))
        self.refused(TooMuch, summed, one, other)
        self.refused(TooMuch, summed, other, one)


class Lesser(Brought):
    def test_ordinary(self):
        one = (2, 1, (0,), (0,), ((0, "a", 0, 1), (0, "b", 0, 3)))
        other = (2, 1, (0,), (0,), ((0, "a", 0, 2),))
        for machine in (lesser(one, other), lesser(other, one)):
            self.assertEqual([price(machine, word) for word in ("", "a", "aa", "b", "ab")], [0, 1, 2, 3, 4])
        dear = (2, 1, (0,), (0,), ((0, "a", 0, 3), (0, "b", 0, 0)))
        self.assertEqual([price(lesser(one, dear), word) for word in ("a", "b", "ab", "aab")], [1, 0, 3, 5])

    def test_the_lesser_and_the_one_that_is_there(self):
        pairs = made_pairs(211, TOGETHER, ANY)
        self.assertGreater(self.check_pairs(lesser, lesser_price, pairs, words=long_words(4, (7, 60))), 100)

    def test_words_of_two_hundred_letters(self):
        self.check_pairs(lesser, lesser_price, made_pairs(212, TOGETHER, ANY, 40, 1), 1, long_words(5, (199, 200)))

    def test_parts_with_75_doors(self):
        self.check_pairs(lesser, lesser_price, crowded_pairs(213, TOGETHER, 3, 3), 2, long_words(6, (30,)))

    def test_no_doors_no_begins_no_ends(self):
        one = (1, 2, (0, 1), (0,), ((0, "a", 1, 1), (1, "a", 0, 2)))
        for other in (NO_BEGIN, NO_END, (1, 2, (0,), (0,), ()), (1, 2, (0,), (1,), ()), (1, 1, (), (), ())):
            self.check_pairs(lesser, lesser_price, [(one, other), (other, other)])

    def test_one_machine_twice(self):
        for one, other in made_pairs(214, [(2, 2), (1, 1)], ANY):
            self.check(lesser(one, one), one[0], lambda word: least_number(one, word))

    def test_told_ones_handed_in_again(self):
        small = [(2, 1, (0,), (0,), ((0, "a", 0, 2), (0, "b", 0, at))) for at in range(3)]
        machine = lesser(lesser(small[2], small[1]), lesser(small[2], small[0]))
        self.check(machine, 2, lambda word: 2 * word.count("a"))


class Behind(Brought):
    def test_ordinary(self):
        one = (2, 1, (0,), (0,), ((0, "a", 0, 1),))
        other = (2, 1, (0,), (0,), ((0, "b", 0, 2),))
        machine = behind(one, other)
        self.assertEqual([price(machine, word) for word in ("", "a", "b", "ab", "aabb", "ba", "aba")],
                         [0, 1, 2, 3, 6, None, None])
        self.assertEqual([price(behind(other, one), word) for word in ("ab", "ba", "b")], [None, 3, 2])

    def test_the_best_cut(self):
        one = (1, 1, (0,), (0,), ((0, "a", 0, 1),))
        other = (1, 2, (0,), (1,), ((0, "a", 1, 3), (1, "a", 1, 0)))
        self.assertEqual([price(behind(one, other), "a" * many) for many in range(5)], [None, 3, 3, 3, 3])
        self.assertEqual([price(behind(other, one), "a" * many) for many in range(5)], [None, 3, 3, 3, 3])

    def test_the_empty_word_on_either_side(self):
        step = (1, 2, (0,), (1,), ((0, "a", 1, 1),))
        perhaps = (1, 2, (0,), (0, 1), ((0, "a", 1, 2),))
        empty = (1, 1, (0,), (0,), ())
        self.check(behind(step, step), 1, lambda word: {"aa": 2}.get(word))
        self.check(behind(step, perhaps), 1, lambda word: {"a": 1, "aa": 3}.get(word))
        self.check(behind(perhaps, step), 1, lambda word: {"a": 1, "aa": 3}.get(word))
        self.check(behind(perhaps, perhaps), 1, lambda word: {"": 0, "a": 2, "aa": 4}.get(word))
        self.check(behind(step, empty), 1, lambda word: {"a": 1}.get(word))
        self.check(behind(empty, step), 1, lambda word: {"a": 1}.get(word))
        self.check(behind(empty, empty), 1, lambda word: {"": 0}.get(word))

    def test_the_least_sum_over_all_cuts(self):
        pairs = made_pairs(221, TOGETHER, ANY)
        self.assertGreater(self.check_pairs(behind, behind_price, pairs, words=long_words(7, (7, 30))), 100)

    def test_words_of_two_hundred_letters(self):
        self.check_pairs(behind, behind_price, made_pairs(222, TOGETHER, ANY, 20, 1), 1, long_words(8, (200,)))

    def test_parts_with_75_doors(self):
        self.check_pairs(behind, behind_price, crowded_pairs(223, TOGETHER, 3, 3), 2, long_words(9, (20,)))

    def test_every_room_a_begin_and_an_end(self):
        chance = random.Random(224)
        for rooms, other_rooms in TOGETHER:
            one = machine_with(chance, 3, rooms, 3, 30)
            other = machine_with(chance, 3, other_rooms, 3, 30)
            one = one[:2] + (tuple(range(rooms)), tuple(range(rooms))) + one[4:]
            other = other[:2] + (tuple(range(other_rooms)), tuple(range(other_rooms))) + other[4:]
            self.check_pairs(behind, behind_price, [(one, other)])

    def test_no_doors_no_begins_no_ends(self):
        one = (1, 2, (0, 1), (0,), ((0, "a", 1, 1), (1, "a", 0, 2)))
        for other in (NO_BEGIN, NO_END, (1, 2, (0,), (0,), ()), (1, 2, (0,), (1,), ()), (1, 1, (), (), ())):
            self.check_pairs(behind, behind_price, [(one, other), (other, other)])

    def test_one_machine_twice(self):
        for one, other in made_pairs(225, [(2, 2), (1, 1)], ANY):
            self.check(behind(one, one), one[0], lambda word: behind_price(one, one, word))


class Turned(Brought):
    def test_ordinary(self):
        machine = turned((2, 2, (0,), (1,), ((0, "a", 0, 1), (0, "b", 1, 2))))
        self.assertEqual([price(machine, word) for word in ("b", "ba", "baa", "ab", "")], [2, 3, 4, None, None])

    def test_words_read_from_the_end(self):
        words = long_words(10, (9, 200))
        for machine in NAMED + made_machines(231, 120):
            known = [word for word in words if set(word) <= set("abc"[:machine[0]])]
            self.check(turned(machine), machine[0], lambda word: least_number(machine, word[::-1]), 3, known[-3:])

    def test_turned_twice(self):
        for machine in NAMED + made_machines(232, 60):
            self.check(turned(turned(machine)), machine[0], lambda word: least_number(machine, word), 3)

    def test_75_doors(self):
        for one, other in crowded_pairs(233, TOGETHER, 3, 3) + [(CROWDED, PLAIN)]:
            for machine in (one, other):
                self.check(turned(machine), machine[0], lambda word: least_number(machine, word[::-1]), 3)

    def test_what_is_set_behind_is_turned_the_other_way_round(self):
        for one, other in made_pairs(234, TOGETHER, ANY, many=1):
            machine = behind(turned(other), turned(one))
            self.check(machine, one[0], lambda word: behind_price(one, other, word[::-1]), 3)


class Refused(Brought):
    def test_rooms_together(self):
        for bring in (lesser, behind):
            for rooms, other_rooms in TOGETHER:
                bring((1, rooms, (), (), ()), (1, other_rooms, (), (), ()))
            for rooms, other_rooms in [(1, 5), (5, 1), (2, 4), (3, 3), (4, 2), (5, 5)]:
                self.refused(TooMuch, bring, (1, rooms, (), (), ()), (1, other_rooms, (), (), ()))

    def test_great_tolls_are_no_matter_but_for_sums(self):
        self.assertEqual(price(lesser((1, 1, (0,), (0,), ((0, "a", 0, 3),)), ONE_ROOM), "aa"), 2)
        dear = (1, 1, (0,), (0,), ((0, "a", 0, 3),))
        self.assertEqual(price(behind(dear, dear), "aa"), 6)
        self.refused(TooMuch, summed, dear, dear)

    def test_letters_that_differ(self):
        for bring in (summed, lesser, behind):
            for letters in (1, 2, 3):
                for other_letters in (1, 2, 3):
                    one = (letters, 1, (0,), (0,), ())
                    other = (other_letters, 1, (0,), (0,), ())
                    if letters == other_letters:
                        self.assertEqual(bring(one, other)[0], letters)
                    else:
                        self.refused(NoPair, bring, one, other)

    def test_no_pair_goes_first(self):
        great = (2, 5, (0,), (0,), ((0, "a", 0, 3),))
        for bring in (summed, lesser, behind):
            self.refused(NoPair, bring, great, (3,) + great[1:])
            self.refused(NoPair, bring, (1,) + great[1:], great)
            self.refused(TooMuch, bring, great, great)

    def test_no_pair_also_where_doors_have_the_same_letters(self):
        for bring in (summed, lesser, behind):
            self.refused(NoPair, bring, (1, 1, (0,), (0,), ((0, "a", 0, 0),)), (2, 1, (0,), (0,), ((0, "a", 0, 0),)))

    def test_no_doors_at_all(self):
        self.refused(TooMuch, summed, NO_DOOR, NO_DOOR)
        self.refused(TooMuch, lesser, NO_DOOR, NO_DOOR)


if __name__ == "__main__":
    unittest.main()
