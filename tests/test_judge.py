import unittest

from leasttolls.closed import closed
from leasttolls.errors import TooMuch
from leasttolls.judge import judge, paper
from leasttolls.looker import look
from leasttolls.makings import signs_made
from leasttolls.rows import rows_met
from leasttolls.signs import end_sign
from leasttolls.tables import price
from leasttolls.unrolled import table_unrolled, word_unrolled
from samples import (
    CROWDED, EIGHTY, EIGHTY_ONE, NAMED, NO_BEGIN, NO_DOOR, NO_END, ONE_ROOM, PLAIN, least_number, letter_after_letter,
    made_machines, words_up_to,
)

BIG = 10 ** 30

# Three letters count in a room each, to no end; words are let by at 3, 2 or 1, as their last letter is a, b or c.
# So no word costs more than 3, and cut at 3 there are 301 rows.
COUNTED = (3, 5, (0, 1, 2, 3), (4,), tuple(
    [(room, letter, room, 1 if room == at else 0) for room in range(3) for at, letter in enumerate("abc")]
    + [(3, letter, 3, 0) for letter in "abc"]
    + [(3, letter, 4, 3 - at) for at, letter in enumerate("abc")]
))

# The same with two counting rooms, where there are few enough.
COUNTED_LESS = (3, 5, (0, 1, 3), (4,), COUNTED[4])


def all_rows(machine, k):
    """Each row that any word has, cut at k."""
    def fold(number):
        return number if number is None else min(number, k + 1)

    first = tuple(0 if room in machine[2] else None for room in range(machine[1]))
    found = {first}
    fresh = [first]
    while fresh:
        row = fresh.pop()
        for letter in "abc"[:machine[0]]:
            behind = tuple(letter_after_letter(machine, letter, row, fold))
            if behind not in found:
                found.add(behind)
                fresh.append(behind)
    return found


def ends(machine, row):
    return min((row[room] for room in machine[3] if row[room] is not None), default=None)


def judged(machines):
    """Each machine that is not refused, with what is told of it."""
    told = []
    for machine in machines:
        try:
            told.append((machine, judge(machine)))
        except TooMuch:
            pass
    return told


class Bound(unittest.TestCase):
    def test_ordinary(self):
        machine = (2, 3, (0,), (2,), ((0, "a", 1, 1), (0, "b", 1, 2), (1, "a", 2, 0), (1, "b", 2, 3), (2, "a", 2, 0)))
        self.assertEqual(judge(machine), ("bound", 5, "bb"))
        self.assertEqual(judge((1, 2, (0,), (1,), ((0, "a", 1, 3),))), ("bound", 3, "a"))

    def test_a_cheap_road_beside_a_dear_one(self):
        self.assertEqual(judge((1, 1, (0,), (0,), ((0, "a", 0, 3), (0, "a", 0, 0)))), ("bound", 0, ""))
        # Each a costs something, or each b does: words of both cost the lesser.
        both = (2, 2, (0, 1), (0, 1), ((0, "a", 0, 1), (0, "b", 0, 0), (1, "a", 1, 0), (1, "b", 1, 1)))
        self.assertEqual(judge(both)[0], "none")
        # A road that is given up behind the second letter costs no more than 2.
        given_up = (1, 3, (0,), (0, 1, 2), ((0, "a", 1, 1), (1, "a", 2, 1), (2, "a", 2, 0)))
        self.assertEqual(judge(given_up), ("bound", 2, "aa"))

    def test_nothing_to_pay(self):
        self.assertEqual(judge(NO_DOOR), ("bound", 0, ""))
        late = (2, 3, (0,), (2,), ((0, "b", 1, 0), (1, "a", 2, 0), (1, "b", 2, 0)))
        self.assertEqual(judge(late), ("bound", 0, "ba"))

    def test_no_word_is_let_by(self):
        for machine in (NO_BEGIN, NO_END, (1, 2, (0,), (1,), ()), (1, 2, (), (), ((0, "a", 1, 1),)),
                        (3, 3, (0,), (2,), ((0, "a", 1, 2), (1, "b", 0, 0), (2, "c", 0, 3)))):
            self.assertEqual(judge(machine), ("bound", 0, None))
            self.assertIsNone(least_number(machine, ""))

    def test_no_word_let_by_though_tolls_are_without_bound(self):
        self.assertEqual(judge((1, 2, (0,), (1,), ((0, "a", 0, 1),))), ("bound", 0, None))

    def test_the_empty_word_alone(self):
        self.assertEqual(judge((3, 2, (0,), (0,), ((0, "a", 1, 1), (1, "b", 1, 3)))), ("bound", 0, ""))

    def test_against_words_one_by_one(self):
        purses = set()
        for machine, told in judged(made_machines(121, 400) + NAMED + EIGHTY):
            if told[0] != "bound":
                continue
            self.assertEqual((type(told), len(told), type(told[1])), (tuple, 3, int))
            k, word = told[1:]
            purses.add(k)
            long = 6 if machine[0] < 3 else 4
            words = list(words_up_to(machine, max(long, min(len(word or ""), 7))))
            prices = [least_number(machine, one) for one in words]
            self.assertTrue(all(number is None or number <= k for number in prices))
            dear = [one for one, number in zip(words, prices) if number == k]
            if dear:
                self.assertEqual(word, dear[0])
            if word is not None:
                self.assertEqual(least_number(machine, word), k)
            else:
                self.assertEqual(set(prices), {None})
        self.assertGreaterEqual(len(purses), 5)

    def test_no_purse_below_is_enough_and_this_one_is(self):
        for machine, told in judged(made_machines(122, 300)):
            if told[0] == "bound":
                k, word = told[1:]
                over = [row for row in all_rows(machine, k) if ends(machine, row) == k + 1]
                self.assertEqual(over, [])
                if k > 0:
                    self.assertEqual(price(machine, word), k)
                    first = rows_met(machine, k - 1)[-1]
                    self.assertEqual(word, first[0])

    def test_steps_over_purses_between(self):
        # From 0 the first dear word costs 3, from there 4 and then 6.
        machine = (2, 3, (0,), (1, 2), ((0, "a", 1, 3), (1, "a", 2, 1), (1, "b", 2, 3)))
        self.assertEqual(judge(machine), ("bound", 6, "ab"))


class NoBound(unittest.TestCase):
    def test_ordinary(self):
        self.assertEqual(judge(ONE_ROOM), ("none", (("letter", "a"), ("sharp", 0))))

    def test_the_last_steps_end_sign(self):
        seen = 0
        for machine, told in judged(made_machines(123, 400) + NAMED + EIGHTY):
            if told[0] == "none":
                seen += 1
                self.assertEqual((type(told), len(told), type(told[1])), (tuple, 2, tuple))
                self.assertEqual(end_sign(machine, signs_made(machine, told[1])[-1]), 2)
        self.assertGreater(seen, 60)

    def test_words_unrolled_cost_more_than_any_purse(self):
        for machine, told in judged(made_machines(124, 120)):
            if told[0] == "none":
                for n in (0, 1, 2, 5, 17, 10 ** 9, BIG):
                    table = table_unrolled(machine, told[1], n)
                    numbers = [table[i][j] for i in machine[2] for j in machine[3] if table[i][j] is not None]
                    self.assertGreater(min(numbers), n)

    def test_a_word_that_is_written_out(self):
        makings = judge(ONE_ROOM)[1]
        for n in range(20):
            self.assertGreater(least_number(ONE_ROOM, word_unrolled(ONE_ROOM, makings, n)), n)

    def test_just_where_a_table_of_the_closed_set_is_so(self):
        both = set()
        for machine, told in judged(made_machines(125, 300)):
            found = 2 in [end_sign(machine, signs) for signs in signs_made(machine, closed(machine))]
            self.assertEqual(told[0] == "none", found)
            both.add(told[0])
        self.assertEqual(both, {"bound", "none"})


class Refused(unittest.TestCase):
    def test_too_great_a_closed_set(self):
        for machine in EIGHTY_ONE:
            for asked in (judge, paper):
                with self.assertRaises(TooMuch):
                    asked(machine)

    def test_it_is_refused_also_where_rows_would_be_few(self):
        machine = EIGHTY_ONE[0][:2] + ((), ()) + EIGHTY_ONE[0][4:]
        for asked in (judge, paper):
            with self.assertRaises(TooMuch):
                asked(machine)

    def test_eighty_are_not_refused(self):
        for machine in EIGHTY:
            self.assertIn(judge(machine)[0], ("bound", "none"))

    def test_too_many_rows_on_the_way(self):
        self.assertEqual(len(all_rows(COUNTED, 3)), 301)
        self.assertLessEqual(len(closed(COUNTED)), 80)
        for asked in (judge, paper):
            with self.assertRaises(TooMuch):
                asked(COUNTED)

    def test_fewer_rows(self):
        self.assertEqual(judge(COUNTED_LESS), ("bound", 3, "a"))
        told = paper(COUNTED_LESS)
        self.assertGreater(len(told[2]), 50)
        self.assertEqual(set(told[2]), all_rows(COUNTED_LESS, 3))


class Papers(unittest.TestCase):
    def test_ordinary(self):
        told = paper((1, 2, (0,), (1,), ((0, "a", 1, 3),)))
        self.assertEqual(told[:2] + told[3:], ("bound", 3, "a"))
        self.assertEqual((type(told), type(told[2]), len(told[2])), (tuple, tuple, 3))
        self.assertEqual(set(told[2]), {(0, None), (None, 3), (None, None)})
        self.assertEqual(paper(ONE_ROOM), ("none", (("letter", "a"), ("sharp", 0))))
        self.assertEqual(paper(NO_BEGIN), ("bound", 0, ((None, None),), None))

    def test_it_is_the_judgements(self):
        for machine, told in judged(made_machines(126, 300) + NAMED + EIGHTY):
            written = paper(machine)
            if told[0] == "none":
                self.assertEqual((written[0], len(written)), ("none", 2))
                self.assertEqual(end_sign(machine, signs_made(machine, written[1])[-1]), 2)
            else:
                self.assertEqual(written[:2] + written[3:], told)
                self.assertEqual(len(set(written[2])), len(written[2]))
                self.assertEqual(set(written[2]), all_rows(machine, told[1]))

    def test_the_looker_lets_them_by(self):
        for machine in made_machines(127, 300) + NAMED + EIGHTY + [PLAIN, CROWDED, COUNTED_LESS]:
            try:
                written = paper(machine)
            except TooMuch:
                with self.assertRaises(TooMuch):
                    judge(machine)
            else:
                self.assertIsNone(look(machine, written))

    def test_asked_again(self):
        for machine in made_machines(128, 30):
            told = judged([machine])
            self.assertEqual(judged([machine]), told)


if __name__ == "__main__":
    unittest.main()
