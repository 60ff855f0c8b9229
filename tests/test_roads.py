import itertools
import unittest

from leasttolls.machines import is_machine
from leasttolls.roads import is_road, is_walk, road, toll, tolls
from samples import (
    CROWDED, NAMED, NO_BEGIN, NO_DOOR, NO_END, ONE_ROOM, PLAIN, all_roads, all_walks, fees, made_machines, words_up_to,
)

BIG = 10 ** 59


class Walks(unittest.TestCase):
    def test_a_walk(self):
        self.assertIs(is_walk(PLAIN, "aab", 0, 2, [0, 1, 3]), True)
        self.assertIs(is_walk(PLAIN, "aab", 0, 2, [0, 6, 3]), True)
        self.assertIs(is_walk(PLAIN, "bb", 1, 1, [2, 2]), True)

    def test_another_room_letter_or_door(self):
        self.assertIs(is_walk(PLAIN, "aab", 1, 2, [0, 1, 3]), False)
        self.assertIs(is_walk(PLAIN, "aab", 0, 1, [0, 1, 3]), False)
        self.assertIs(is_walk(PLAIN, "abb", 0, 2, [0, 1, 3]), False)
        self.assertIs(is_walk(PLAIN, "aaa", 0, 2, [0, 1, 3]), False)
        self.assertIs(is_walk(PLAIN, "aab", 0, 2, [1, 0, 3]), False)
        self.assertIs(is_walk(PLAIN, "aab", 0, 2, [0, 1, 4]), False)

    def test_places_that_are_none(self):
        # Counted from the last door, -7 would be the first one.
        for place in (-1, -6, -7, -8, 7, 8, BIG, -BIG):
            self.assertIs(is_walk(PLAIN, "a", 0, 0, [place]), False, place)
            self.assertIs(is_walk(PLAIN, "a", 0, 1, [place]), False, place)
            self.assertIs(is_walk(PLAIN, "aa", 0, 1, [0, place]), False, place)
            self.assertIs(is_road(PLAIN, "b", [place]), False, place)
        self.assertIs(is_walk(ONE_ROOM, "a", 0, 0, [-1]), False)
        self.assertIs(is_road(ONE_ROOM, "a", [-1]), False)
        self.assertIs(is_road(ONE_ROOM, "a", [1]), False)
        self.assertIs(is_walk(NO_DOOR, "a", 0, 0, [0]), False)

    def test_too_few_or_too_many_places(self):
        self.assertIs(is_walk(ONE_ROOM, "aa", 0, 0, [0]), False)
        self.assertIs(is_walk(ONE_ROOM, "aa", 0, 0, [0, 0]), True)
        self.assertIs(is_walk(ONE_ROOM, "aa", 0, 0, [0, 0, 0]), False)
        self.assertIs(is_walk(ONE_ROOM, "a", 0, 0, []), False)
        self.assertIs(is_road(ONE_ROOM, "aa", [0]), False)
        self.assertIs(is_road(ONE_ROOM, "aa", [0, 0]), True)
        self.assertIs(is_road(ONE_ROOM, "aa", [0, 0, 0]), False)

    def test_the_empty_word(self):
        for machine in NAMED:
            for start, goal in itertools.product(range(machine[1]), repeat=2):
                self.assertIs(is_walk(machine, "", start, goal, []), start == goal)
                self.assertIs(is_walk(machine, "", start, goal, [0]), False)

    def test_no_walk_from_what_is_no_room(self):
        self.assertIs(is_walk(PLAIN, "", 3, 3, []), False)
        self.assertIs(is_walk(PLAIN, "", -1, -1, []), False)

    def test_roads_of_the_empty_word(self):
        self.assertIs(is_road(PLAIN, "", []), False)
        self.assertIs(is_road(ONE_ROOM, "", []), True)
        self.assertIs(is_road(ONE_ROOM, "", [0]), False)
        self.assertIs(is_road(NO_DOOR, "", []), True)
        self.assertIs(is_road(NO_BEGIN, "", []), False)
        self.assertIs(is_road(NO_END, "", []), False)

    def test_roads_begin_at_begins_and_end_at_ends(self):
        self.assertIs(is_road(PLAIN, "b", [4]), True)
        self.assertIs(is_road(PLAIN, "b", [3]), False)
        self.assertIs(is_road(PLAIN, "ab", [1, 3]), True)
        self.assertIs(is_road(PLAIN, "ab", [1, 2]), False)
        self.assertIs(is_walk(PLAIN, "ab", 0, 1, [1, 2]), True)
        self.assertIs(is_road(NO_BEGIN, "a", [0]), False)
        self.assertIs(is_road(NO_END, "a", [0]), False)
        self.assertIs(is_road(NO_DOOR, "a", [0]), False)

    def test_against_all_lists_of_places(self):
        for machine in made_machines(2, 40):
            for word in words_up_to(machine, 2):
                walks = all_walks(machine, word)
                roads = all_roads(machine, word)
                for places in itertools.product(range(-1, len(machine[4]) + 1), repeat=len(word)):
                    places = list(places)
                    self.assertIs(is_road(machine, word, places), places in roads)
                    for start, goal in itertools.product(range(machine[1]), repeat=2):
                        there = (start, goal, places) in walks
                        self.assertIs(is_walk(machine, word, start, goal, places), there)

    def test_long_walks(self):
        self.assertIs(is_walk(ONE_ROOM, "a" * 200, 0, 0, [0] * 200), True)
        self.assertIs(is_road(ONE_ROOM, "a" * 200, [0] * 200), True)
        self.assertIs(is_road(ONE_ROOM, "a" * 200, [0] * 199 + [1]), False)


class Toll(unittest.TestCase):
    def test_of_a_walk(self):
        self.assertEqual(toll(PLAIN, [0, 1, 3]), 4)

    def test_of_places_in_any_order_and_twice(self):
        self.assertEqual(toll(PLAIN, [3, 1, 0]), 4)
        self.assertEqual(toll(PLAIN, [3, 3]), 6)
        self.assertEqual(toll(PLAIN, [6, 5, 4, 3, 2, 1, 0]), 9)

    def test_of_no_places(self):
        self.assertEqual(toll(PLAIN, []), 0)
        self.assertEqual(toll(NO_DOOR, []), 0)


class Road(unittest.TestCase):
    def look_at(self, machine, word):
        roads = all_roads(machine, word)
        told = road(machine, word)
        if not roads:
            self.assertIsNone(told, (machine, word))
        else:
            self.assertIsInstance(told, list)
            self.assertIn(told, roads)
            self.assertEqual(fees(machine, told), min(fees(machine, places) for places in roads))

    def test_against_all_roads(self):
        for machine in made_machines(3, 150) + [PLAIN, NO_BEGIN, NO_END, NO_DOOR, ONE_ROOM]:
            for word in words_up_to(machine, 4):
                self.look_at(machine, word)
        for word in words_up_to(CROWDED, 3):
            self.look_at(CROWDED, word)

    def test_the_empty_word(self):
        self.assertEqual(road(ONE_ROOM, ""), [])
        self.assertEqual(road(NO_DOOR, ""), [])
        self.assertIsNone(road(PLAIN, ""))
        self.assertIsNone(road(NO_BEGIN, ""))
        self.assertIsNone(road(NO_END, ""))

    def test_the_cheapest_first_door_may_lead_dearly(self):
        machine = (2, 4, (0,), (3,), ((0, "a", 1, 0), (1, "b", 3, 3), (0, "a", 2, 1), (2, "b", 3, 1)))
        self.assertEqual(road(machine, "ab"), [2, 3])

    def test_the_cheapest_room_at_the_end_may_be_no_end(self):
        machine = (1, 3, (0,), (1, 2), ((0, "a", 0, 0), (0, "a", 1, 3), (0, "a", 2, 2)))
        self.assertEqual(road(machine, "a"), [2])

    def test_alike_doors(self):
        machine = (1, 1, (0,), (0,), ((0, "a", 0, 3), (0, "a", 0, 1), (0, "a", 0, 2), (0, "a", 0, 1)))
        told = road(machine, "aaa")
        self.assertIs(is_road(machine, "aaa", told), True)
        self.assertEqual(toll(machine, told), 3)

    def test_very_many_roads(self):
        # A free way round leaves the begin by c alone, so it is taken once; all else costs 1.
        doors = [(start, letter, goal, 1) for start in range(5) for letter in "ab" for goal in range(5)]
        machine = (3, 5, (0, 1), (3, 4), tuple(doors) + ((0, "c", 4, 0), (1, "c", 3, 2)))
        self.assertTrue(is_machine(machine))
        for word, price in (("ab" * 100, 200), ("a" * 100 + "c" + "b" * 99, 199), ("c" + "a" * 199, 199)):
            told = road(machine, word)
            self.assertIs(is_road(machine, word, told), True)
            self.assertEqual(toll(machine, told), price)
        self.assertIsNone(road(machine, "a" * 100 + "cc" + "b" * 98))

    def test_two_hundred_letters_with_free_doors(self):
        word = "abc" * 66 + "ab"
        told = road(CROWDED, word)
        self.assertIs(is_road(CROWDED, word, told), True)
        self.assertEqual(toll(CROWDED, told), least_by_rooms(CROWDED, word))


def least_by_rooms(machine, word):
    """The least toll, reckoned from the ends backwards."""
    rest = [0 if room in machine[3] else 10 ** 9 for room in range(machine[1])]
    for letter in reversed(word):
        rest = [
            min([fee + rest[goal] for start, sign, goal, fee in machine[4] if (start, sign) == (room, letter)])
            for room in range(machine[1])
        ]
    return min(rest[room] for room in machine[2])


class Tolls(unittest.TestCase):
    def test_against_all_roads(self):
        for machine in made_machines(4, 150) + [PLAIN, NO_BEGIN, NO_END, NO_DOOR, ONE_ROOM]:
            for word in words_up_to(machine, 4):
                told = tolls(machine, word)
                self.assertIsInstance(told, list)
                self.assertEqual(told, sorted({fees(machine, places) for places in all_roads(machine, word)}))

    def test_the_empty_list_where_there_is_no_road(self):
        self.assertEqual(tolls(NO_BEGIN, "a"), [])
        self.assertEqual(tolls(NO_END, "a"), [])
        self.assertEqual(tolls(NO_DOOR, "a"), [])
        self.assertEqual(tolls(PLAIN, ""), [])
        self.assertEqual(tolls(PLAIN, "ba" * 12), [])

    def test_the_empty_word(self):
        self.assertEqual(tolls(ONE_ROOM, ""), [0])
        self.assertEqual(tolls(NO_DOOR, ""), [0])

    def test_very_many_roads(self):
        doors = [(start, "a", goal, fee) for start in range(3) for goal in range(3) for fee in (0, 3)]
        machine = (1, 3, (0, 1, 2), (0, 1, 2), tuple(doors))
        self.assertEqual(tolls(machine, "a" * 24), list(range(0, 73, 3)))
        self.assertEqual(tolls(CROWDED, "abc" * 8)[0], toll(CROWDED, road(CROWDED, "abc" * 8)))

    def test_the_first_is_that_of_the_road(self):
        for machine in made_machines(5, 60):
            for word in words_up_to(machine, 5):
                told = tolls(machine, word)
                way = road(machine, word)
                self.assertEqual(told[:1], [] if way is None else [toll(machine, way)])


class Unchanged(unittest.TestCase):
    def test_a_list_that_is_handed_in_stays(self):
        places = [0, 1, 3]
        is_walk(PLAIN, "aab", 0, 2, places)
        is_road(PLAIN, "aab", places)
        toll(PLAIN, places)
        self.assertEqual(places, [0, 1, 3])

    def test_a_list_that_is_handed_in_and_changed_changes_no_answer(self):
        places = [0, 1, 3]
        self.assertEqual(toll(PLAIN, places), 4)
        places.append(3)
        self.assertEqual(toll(PLAIN, places), 7)
        self.assertIs(is_road(PLAIN, "aab", places), False)
        places.pop()
        self.assertIs(is_road(PLAIN, "aab", places), True)

    def test_a_told_list_is_the_askers_own(self):
        for ask in (road, tolls):
            for machine, word, between in ((PLAIN, "aab", "aaab"), (ONE_ROOM, "", "a"), (NO_DOOR, "", "")):
                first = ask(machine, word)
                kept = list(first)
                first.append(99)
                first[:1] = [77, 78]
                changed = list(first)
                ask(machine, between)
                second = ask(machine, word)
                self.assertEqual(second, kept)
                self.assertEqual(first, changed)
                self.assertIsNot(first, second)
        empty = tolls(NO_BEGIN, "a")
        empty.append(1)
        self.assertEqual(tolls(NO_BEGIN, "a"), [])


if __name__ == "__main__":
    unittest.main()
