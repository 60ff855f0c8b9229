import unittest

from leasttolls.machines import is_machine, is_word
from samples import NAMED, ODD_THINGS, PLAIN, made_machines

DOOR = (0, "a", 0, 1)
BIG = 10 ** 59


def with_part(at, part):
    machine = list(PLAIN)
    machine[at] = part
    return tuple(machine)


def with_door(door):
    return (2, 3, (0,), (2,), (DOOR, door))


class Machines(unittest.TestCase):
    def yes(self, thing):
        self.assertIs(is_machine(thing), True, thing)

    def no(self, thing):
        self.assertIs(is_machine(thing), False, thing)

    def test_machines_are_some(self):
        for machine in NAMED + made_machines(1, 200):
            self.yes(machine)

    def test_other_things_are_none(self):
        for thing in ODD_THINGS + [0, 1, 5, "", "a", "abcde", ()]:
            self.no(thing)

    def test_too_few_or_too_many_parts(self):
        self.no(PLAIN[:4])
        self.no(PLAIN + ((),))
        self.no(PLAIN + PLAIN)

    def test_lists_in_a_tuples_place(self):
        self.no(list(PLAIN))
        self.no(with_part(2, [0]))
        self.no(with_part(2, []))
        self.no(with_part(3, [2]))
        self.no(with_part(3, []))
        self.no(with_part(4, []))
        self.no(with_part(4, [DOOR]))
        self.no(with_part(4, (list(DOOR),)))
        self.no(with_part(4, (DOOR, list(DOOR))))

    def test_letters(self):
        for letters in (1, 2, 3):
            self.yes((letters, 1, (0,), (0,), ()))
        for letters in (0, 4, -1, BIG, True, False, None, "a", "1", (1,), [1]):
            self.no((letters, 1, (0,), (0,), ()))

    def test_rooms(self):
        for rooms in (1, 2, 3, 4, 5):
            self.yes((1, rooms, (0,), (rooms - 1,), ()))
            self.no((1, rooms, (0,), (rooms,), ()))
        for rooms in (0, 6, -1, BIG, True, False, None, "a", "1", (1,), [1]):
            self.no((1, rooms, (), (), ()))

    def test_begins_and_ends(self):
        for at in (2, 3):
            for part in ((), (0,), (2,), (0, 1), (0, 2), (0, 1, 2)):
                self.yes(with_part(at, part))
            for part in (
                (1, 0), (0, 2, 1), (0, 0), (1, 1, 2), (0, 1, 1), (3,), (-1,), (0, 3), (-1, 0), (BIG,),
                (True,), (False,), (0, True), (None,), ("0",), ((0,),), ([0],), (0, (1,)),
                None, 0, 1, True, "", "0", "012",
            ):
                self.no(with_part(at, part))

    def test_how_many_doors(self):
        for many in (0, 1, 74, 75):
            self.yes(with_part(4, (DOOR,) * many))
        for many in (76, 77, 200):
            self.no(with_part(4, (DOOR,) * many))

    def test_doors_in_any_order(self):
        self.yes(with_part(4, ((2, "b", 0, 3), (0, "a", 2, 0), (2, "b", 0, 3), (1, "a", 1, 1))))

    def test_doors_that_are_no_tuple(self):
        for part in (None, 0, True, "", "a", "door"):
            self.no(with_part(4, part))

    def test_a_door_among_good_ones_counts(self):
        self.no(with_part(4, ((0, "a", 0, 4), DOOR)))
        self.no(with_part(4, (DOOR, (0, "a", 0, 4))))
        self.no(with_part(4, (DOOR,) * 40 + ((0, "a", 0, 4),) + (DOOR,) * 20))

    def test_letters_of_doors(self):
        for known in (1, 2, 3):
            for at, letter in enumerate("abc"):
                self.assertIs(is_machine((known, 1, (), (), ((0, letter, 0, 0),))), at < known)
        for letter in ("", "ab", "aa", "d", "A", " ", "abc", 0, True, None, ("a",), ["a"], ()):
            self.no(with_door((0, letter, 0, 0)))
            self.no((3, 3, (), (), ((0, letter, 0, 0),)))

    def test_rooms_of_doors(self):
        for room in (0, 1, 2):
            self.yes(with_door((room, "a", 0, 0)))
            self.yes(with_door((0, "a", room, 0)))
        for room in (3, -1, BIG, True, False, None, "0", (0,), [0]):
            self.no(with_door((room, "a", 0, 0)))
            self.no(with_door((0, "a", room, 0)))

    def test_tolls_of_doors(self):
        for fee in (0, 1, 2, 3):
            self.yes(with_door((0, "a", 0, fee)))
        for fee in (4, -1, BIG, -BIG, True, False, None, "1", (1,), [1]):
            self.no(with_door((0, "a", 0, fee)))

    def test_too_few_or_too_many_things_in_a_door(self):
        for door in ((), (0,), (0, "a"), (0, "a", 0), (0, "a", 0, 0, 0), (0, "a", 0, 0) * 2):
            self.no(with_door(door))

    def test_doors_that_are_none(self):
        for door in ODD_THINGS + [0, 1, "a", "", "0a00", ()]:
            self.no(with_door(door))


class Words(unittest.TestCase):
    def test_words_are_some(self):
        for word in ("", "a", "b", "ab", "ba", "a" * 199, "a" * 200, "ab" * 100):
            self.assertIs(is_word(PLAIN, word), True, word)

    def test_too_long(self):
        for many in (201, 202, 20000):
            self.assertIs(is_word(PLAIN, "a" * many), False, many)

    def test_letters_that_are_known(self):
        for known in (1, 2, 3):
            machine = (known, 1, (0,), (0,), ())
            for at, letter in enumerate("abc"):
                self.assertIs(is_word(machine, letter), at < known)
                self.assertIs(is_word(machine, "a" * 199 + letter), at < known)
                self.assertIs(is_word(machine, letter + "a"), at < known)

    def test_doors_dont_tell_which_letters_are_known(self):
        self.assertIs(is_word((3, 1, (), (), ()), "abc"), True)

    def test_other_signs(self):
        for word in ("A", "d", " ", "a ", " a", "a b", "-", "~", "a\n", "\n", "0"):
            self.assertIs(is_word(PLAIN, word), False, word)

    def test_what_is_no_text(self):
        for thing in ODD_THINGS + [0, 1, (), [], ["a"], ("a",), ["a", "b"], ("a", "b"), [""], ("",)]:
            self.assertIs(is_word(PLAIN, thing), False, thing)


class Unchanged(unittest.TestCase):
    def test_what_is_handed_in_stays(self):
        thing = [2, 3, [0], [[1], "a"], [[0, "a", 0, 1]]]
        held = (2, 3, thing, [0], ([],))
        is_machine(thing)
        is_machine(held)
        is_word(PLAIN, thing)
        self.assertEqual(thing, [2, 3, [0], [[1], "a"], [[0, "a", 0, 1]]])
        self.assertEqual(held, (2, 3, thing, [0], ([],)))


if __name__ == "__main__":
    unittest.main()
