import unittest

from leasttolls.cuts import end_of, first_row, row_of
from leasttolls.errors import TooMuch
from leasttolls.rows import above, rows_met
from leasttolls.tables import price
from samples import CROWDED, NO_BEGIN, NO_DOOR, NO_END, ONE_ROOM, PLAIN, made_machines, words_up_to

BIG = 10 ** 59

# Two counters that never come to an end room: their rows are far too many.
COUNTERS = (3, 3, (0, 1), (2,), ((0, "a", 0, 1), (1, "a", 1, 0), (0, "b", 0, 0), (1, "b", 1, 1),
                                 (0, "c", 0, 3), (1, "c", 1, 2)))


def rows_by_words(machine, k, long):
    """All words up to a length in their order, each row with the first one, up to the first that ends above."""
    told = []
    seen = set()
    for word in words_up_to(machine, long):
        row = row_of(machine, k, word)
        if row not in seen:
            seen.add(row)
            told.append((word, row))
            if end_of(machine, row) == k + 1:
                break
    return told


class RowsMet(unittest.TestCase):
    def test_ordinary(self):
        self.assertEqual(rows_met(ONE_ROOM, 2), [("", (0,)), ("a", (1,)), ("aa", (2,)), ("aaa", (3,))])
        self.assertEqual(rows_met(PLAIN, 1), [
            ("", (0, None, None)), ("a", (1, 0, None)), ("b", (None, None, 1)), ("aa", (2, 1, None)),
            ("ab", (None, 2, 2)),
        ])

    def test_the_empty_word_goes_first(self):
        for machine in made_machines(41, 40):
            self.assertEqual(rows_met(machine, 1)[0], ("", first_row(machine)))

    def test_kinds(self):
        told = rows_met(PLAIN, 3)
        self.assertIs(type(told), list)
        for entry in told:
            self.assertEqual([type(entry), len(entry), type(entry[0]), type(entry[1])], [tuple, 2, str, tuple])

    def test_against_words_one_by_one(self):
        for machine in made_machines(42, 120) + [PLAIN, NO_BEGIN, NO_END, NO_DOOR, ONE_ROOM]:
            for k in (0, 1, 2):
                long = 6 if machine[0] < 3 else 5
                expected = rows_by_words(machine, k, long)
                told = rows_met(machine, k)
                self.assertEqual([entry for entry in told if len(entry[0]) <= long], expected)

    def test_each_row_once_and_closed(self):
        for machine in made_machines(43, 60):
            for k in (0, 1, 2):
                told = rows_met(machine, k)
                rows = [row for word, row in told]
                words = [word for word, row in told]
                self.assertEqual(len(set(rows)), len(rows))
                self.assertEqual(words, sorted(words, key=lambda word: (len(word), word)))
                self.assertEqual(rows, [row_of(machine, k, word) for word in words])
                over = [end_of(machine, row) == k + 1 for row in rows]
                self.assertNotIn(True, over[:-1])
                if not over[-1]:
                    for word in words:
                        for letter in "abc"[:machine[0]]:
                            self.assertIn(row_of(machine, k, word + letter), rows)

    def test_it_stops_within_a_words_letters(self):
        # By b the row ends above 0, so c and all that is longer is not met.
        machine = (3, 2, (0,), (1,), ((0, "a", 0, 0), (0, "b", 1, 1), (0, "c", 1, 0)))
        self.assertEqual(rows_met(machine, 0), [("", (0, None)), ("b", (None, 1))])

    def test_of_one_length_as_texts(self):
        machine = (3, 4, (0,), (), ((0, "c", 1, 0), (0, "b", 2, 0), (0, "a", 3, 0), (3, "c", 3, 1), (3, "a", 0, 1)))
        self.assertEqual(rows_met(machine, 1), rows_by_words(machine, 1, 6))
        self.assertEqual([word for word, row in rows_met(machine, 1)][:4], ["", "a", "b", "c"])

    def test_three_hundred_are_not_too_many(self):
        told = rows_met(ONE_ROOM, 298)
        self.assertEqual(told, [("a" * many, (many,)) for many in range(300)])
        self.assertEqual(above(ONE_ROOM, 298), "a" * 299)

    def test_the_last_one_counts(self):
        for k in (299, 300, 301, BIG):
            with self.assertRaises(TooMuch):
                rows_met(ONE_ROOM, k)
            with self.assertRaises(TooMuch):
                above(ONE_ROOM, k)

    def test_three_hundred_that_never_end_above(self):
        no_end = (1, 1, (0,), (), ((0, "a", 0, 1),))
        self.assertEqual(len(rows_met(no_end, 298)), 300)
        self.assertIsNone(above(no_end, 298))
        with self.assertRaises(TooMuch):
            rows_met(no_end, 299)
        with self.assertRaises(TooMuch):
            above(no_end, 299)

    def test_far_too_many(self):
        for k in (50, 10 ** 6, BIG):
            with self.assertRaises(TooMuch):
                rows_met(COUNTERS, k)
            with self.assertRaises(TooMuch):
                above(COUNTERS, k)

    def test_it_stops_ahead_of_far_too_many(self):
        # The word b ends above at once; else there would be far too many.
        machine = COUNTERS[:4] + (COUNTERS[4] + ((0, "b", 2, 1),),)
        self.assertEqual(rows_met(machine, 0)[-1][0], "b")
        self.assertEqual(above(machine, 0), "b")


class Above(unittest.TestCase):
    def test_ordinary(self):
        self.assertEqual(above(PLAIN, 0), "b")
        self.assertEqual(above(PLAIN, 1), "ab")
        self.assertEqual(above(PLAIN, 2), "aab")
        self.assertEqual([above(ONE_ROOM, k) for k in range(4)], ["a", "aa", "aaa", "aaaa"])

    def test_none(self):
        for k in (0, 5, BIG):
            self.assertIsNone(above(NO_BEGIN, k))
            self.assertIsNone(above(NO_DOOR, k))
        for k in (0, 5, 200):
            self.assertIsNone(above(NO_END, k))
        self.assertIsNone(above((1, 2, (0,), (1,), ((0, "a", 1, 3),)), 3))
        self.assertEqual(above((1, 2, (0,), (1,), ((0, "a", 1, 3),)), 2), "a")

    def test_a_dear_road_beside_a_cheap_one(self):
        self.assertIsNone(above((1, 1, (0,), (0,), ((0, "a", 0, 3), (0, "a", 0, 0))), 0))

    def test_against_words_one_by_one(self):
        for machine in made_machines(44, 120) + [PLAIN]:
            long = 6 if machine[0] < 3 else 4
            words = list(words_up_to(machine, long))
            prices = [price(machine, word) for word in words]
            for k in (0, 1, 2):
                dear = [word for word, told in zip(words, prices) if told is not None and told > k]
                told = above(machine, k)
                if dear:
                    self.assertEqual(told, dear[0])
                elif told is not None:
                    self.assertGreater(len(told), long)
                    self.assertGreater(price(machine, told), k)


class Own(unittest.TestCase):
    def test_a_told_list_is_the_askers_own(self):
        kept = list(rows_met(PLAIN, 1))
        told = rows_met(PLAIN, 1)
        told.append(("x", (7,)))
        told[0] = None
        changed = list(told)
        rows_met(CROWDED, 0)
        rows_met(PLAIN, 2)
        self.assertEqual(rows_met(PLAIN, 1), kept)
        self.assertEqual(above(PLAIN, 1), "ab")
        self.assertEqual(told, changed)


if __name__ == "__main__":
    unittest.main()
