import unittest

from leasttolls.closed import closed
from leasttolls.errors import TooMuch
from leasttolls.makings import signs_made
from samples import (
    CROWDED, EIGHTY, EIGHTY_ONE, NAMED, NO_DOOR, ONE_ROOM, letter_signs, made_machines, signs_multiplied,
    signs_sharpened,
)

# Each letter changes rooms, so that all ways to send five rooms to five rooms are products: 3125, and more by tolls.
ALL_WAYS = (3, 5, (0,), (4,), tuple(
    [(room, "a", (room + 1) % 5, 1) for room in range(5)]
    + [(room, "b", {0: 1, 1: 0}.get(room, room), 0) for room in range(5)]
    + [(room, "c", {0: 1}.get(room, room), room % 3) for room in range(5)]
))


def gathered(machine, most):
    """The closed set by rounds over all of it, up to where it has more than so many."""
    found = {letter_signs(machine, letter) for letter in "abc"[:machine[0]]}
    while True:
        more = {signs_multiplied(one, other) for one in found for other in found}
        more |= {signs_sharpened(one) for one in found} - {None}
        if more <= found:
            return found
        found |= more
        if len(found) > most:
            return None


class Closed(unittest.TestCase):
    def test_ordinary(self):
        self.assertEqual(closed(ONE_ROOM), (("letter", "a"), ("sharp", 0)))
        self.assertEqual(closed((1, 1, (0,), (0,), ((0, "a", 0, 0),))), (("letter", "a"),))
        swap = (1, 2, (0,), (0,), ((0, "a", 1, 0), (1, "a", 0, 1)))
        told = closed(swap)
        self.assertEqual(set(signs_made(swap, told)), {
            ((3, 0), (1, 3)), ((1, 3), (3, 1)), ((3, 1), (1, 3)), ((2, 3), (3, 2)), ((3, 2), (2, 3)),
        })
        self.assertEqual(len(told), 5)

    def test_against_rounds_over_all(self):
        seen = set()
        for machine in made_machines(91, 300) + NAMED:
            expected = gathered(machine, 80)
            if expected is None:
                with self.assertRaises(TooMuch):
                    closed(machine)
            else:
                told = closed(machine)
                self.assertIs(type(told), tuple)
                made = signs_made(machine, told)
                self.assertEqual(len(set(made)), len(made))
                self.assertEqual(set(made), expected)
                seen.add((machine[0], machine[1]))
        self.assertEqual(len(seen), 15)

    def test_letters_with_the_same_signs(self):
        self.assertEqual(signs_made(NO_DOOR, closed(NO_DOOR)), [((3, 3, 3),) * 3])
        for rooms in range(1, 6):
            for letters in range(1, 4):
                machine = (letters, rooms, (0,), (0,), ())
                self.assertEqual(closed(machine), (("letter", "a"),))
        alike = (3, 1, (0,), (0,), ((0, "a", 0, 1), (0, "b", 0, 3), (0, "c", 0, 0)))
        self.assertEqual(sorted(signs_made(alike, closed(alike))), [((0,),), ((1,),), ((2,),)])

    def test_sharpened_ones_are_multiplied_again(self):
        # The way by room 1 costs nothing a second time, but only behind a sharpened one without bound.
        machine = (2, 3, (0,), (2,), ((0, "a", 0, 1), (0, "b", 1, 0), (1, "a", 1, 1), (1, "b", 2, 0), (2, "a", 2, 0)))
        told = set(signs_made(machine, closed(machine)))
        self.assertEqual(told, gathered(machine, 80))
        self.assertIn(2, {signs[0][2] for signs in told})

    def test_eighty_are_not_refused(self):
        for machine in EIGHTY:
            told = closed(machine)
            self.assertEqual(len(told), 80)
            self.assertEqual(set(signs_made(machine, told)), gathered(machine, 80))

    def test_more_than_eighty(self):
        for machine in EIGHTY_ONE:
            self.assertEqual(len(gathered(machine, 81)), 81)
            with self.assertRaises(TooMuch):
                closed(machine)

    def test_far_too_many(self):
        with self.assertRaises(TooMuch):
            closed(ALL_WAYS)

    def test_what_is_handed_in_and_told_again(self):
        for machine in made_machines(92, 20) + [CROWDED]:
            told = closed(machine)
            self.assertEqual(closed(machine), told)
            self.assertLessEqual(len(told), 80)


if __name__ == "__main__":
    unittest.main()
