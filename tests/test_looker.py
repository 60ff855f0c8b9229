import unittest

from leasttolls.errors import NoPaper
from leasttolls.looker import look
from samples import NO_BEGIN, NO_END, ODD_THINGS, ONE_ROOM, made_machines

BIG = 10 ** 30
A = ("letter", "a")

# a costs 3 and is the one word that is let by.
STEP = (1, 2, (0,), (1,), ((0, "a", 1, 3),))
ROWS = ((0, None), (None, 3), (None, None))
PAPER = ("bound", 3, ROWS, "a")

# All words of a and b are let by for nothing; c is not known.
FREE = (2, 1, (0,), (0,), ((0, "a", 0, 0), (0, "b", 0, 0)))

# Two rooms that never meet; b leads to no room, c isn't known. Words of a alone are let by for nothing.
TWO = (2, 2, (0,), (0,), ((0, "a", 0, 0), (1, "a", 1, 2)))
NOWHERE = (None, None)


class Looked(unittest.TestCase):
    def let_by(self, machine, thing):
        self.assertIsNone(look(machine, thing), thing)

    def refused(self, machine, thing, where, at=0):
        with self.assertRaises(NoPaper) as caught:
            look(machine, thing)
        self.assertEqual((caught.exception.where, caught.exception.at), (where, at), thing)
        self.assertEqual((type(caught.exception.where), type(caught.exception.at)), (str, int))


class LetBy(Looked):
    def test_ordinary(self):
        self.let_by(STEP, PAPER)
        self.let_by(FREE, ("bound", 0, ((0,),), ""))
        self.let_by(TWO, ("bound", 0, ((0, None), NOWHERE), "aa"))
        self.let_by(ONE_ROOM, ("none", (A, ("sharp", 0))))

    def test_rows_in_any_order_and_twice(self):
        self.let_by(STEP, ("bound", 3, ROWS[::-1], "a"))
        self.let_by(STEP, ("bound", 3, ROWS + ROWS, "a"))

    def test_rows_that_no_word_has(self):
        self.let_by(STEP, ("bound", 3, ROWS + ((None, 2), (None, 0)), "a"))
        self.let_by(TWO, ("bound", 0, ((0, 1), (0, None), NOWHERE), ""))

    def test_any_word_of_that_price(self):
        for word in ("", "a", "aaaa"):
            self.let_by(TWO, ("bound", 0, ((0, None), NOWHERE), word))

    def test_no_word_is_let_by(self):
        self.let_by(NO_BEGIN, ("bound", 0, (NOWHERE,), None))
        self.let_by(NO_END, ("bound", 0, ((0, 0), (1, 1)), None))


class Paper(Looked):
    def test_no_paper(self):
        for thing in ODD_THINGS + [
            "", "bound", "none", ("bound",), ("none",), PAPER[:3], PAPER + (None,), list(PAPER), ("Bound",) + PAPER[1:],
            ("none",) + PAPER[1:], (None,) + PAPER[1:], (True,) + PAPER[1:], (["bound"],) + PAPER[1:], ("bound", (A,)),
            ("none", (A, ("sharp", 0)), None), ["none", (A, ("sharp", 0))], ("None", (A, ("sharp", 0))),
            ("bound ",) + PAPER[1:], ("", (A,)), ((A, ("sharp", 0)), "none"), ("bound", "none"), (0, 0, 0, 0), (0, 0),
        ]:
            self.refused(STEP, thing, "paper")
            self.refused(ONE_ROOM, thing, "paper")


class Purse(Looked):
    def test_no_purse(self):
        for k in (-1, -BIG, BIG + 1, 10 ** 59, True, False, None, "3", (3,), [3], (), []):
            self.refused(STEP, ("bound", k, ROWS, "a"), "purse")
            self.refused(STEP, ("bound", k, None, None), "purse")

    def test_the_greatest(self):
        # Of rows all is as told, so the word alone is at fault: no word costs so much.
        for k in (4, BIG - 1, BIG):
            self.refused(STEP, ("bound", k, ROWS, "a"), "word")
        self.refused(STEP, ("bound", BIG + 1, ROWS, "a"), "purse")

    def test_too_small_a_purse(self):
        self.refused(STEP, ("bound", 2, ROWS, "a"), "end", 1)
        self.refused(STEP, ("bound", 1, ROWS, "a"), "rows", 1)
        self.refused(STEP, ("bound", 1, ((0, None), (None, 2), NOWHERE), "a"), "end", 1)
        self.refused(STEP, ("bound", 0, ((0, None), (None, 1), NOWHERE), None), "end", 1)


class Rows(Looked):
    def test_no_tuple_of_rows(self):
        for rows in ODD_THINGS:
            if not isinstance(rows, tuple) or rows == ():
                self.refused(STEP, ("bound", 3, rows, "a"), "rows")
        self.refused(STEP, ("bound", 3, list(ROWS), "a"), "rows")
        self.refused(STEP, ("bound", 3, (), "a"), "rows")
        self.refused(STEP, ("bound", 3, {}, "a"), "rows")

    def test_301_and_302(self):
        self.let_by(FREE, ("bound", 0, ((0,),), ""))
        self.let_by(FREE, ("bound", 0, ((0,),) * 300, ""))
        self.let_by(FREE, ("bound", 0, ((0,),) * 301, ""))
        self.refused(FREE, ("bound", 0, ((0,),) * 302, ""), "rows")
        self.refused(FREE, ("bound", 0, ((0,),) * 300 + (0, 0), ""), "rows", 0)
        self.refused(FREE, ("bound", 0, ((0,),) * 300 + (0,), ""), "rows", 300)

    def test_301_rows_each_another(self):
        counter = (1, 2, (0, 1), (1,), ((0, "a", 0, 1), (1, "a", 1, 0)))
        rows = tuple((number, 0) for number in range(301))
        self.refused(counter, ("bound", 299, rows, ""), "word")
        self.refused(counter, ("bound", 300, rows, ""), "led", 300)

    def test_things_that_are_no_rows(self):
        for thing in ODD_THINGS + [
            (0,), (0, None, None), [0, None], [None, 3], (0, 5), (5, 0), (-1, 0), (0, -1), (True, 0), (0, False),
            (False, None), (None, "0"), ("a", "b"), (0, (0,)), ([0], 0), (None, []), (0, BIG), "00", "",
        ]:
            self.refused(STEP, ("bound", 3, (thing,) + ROWS, "a"), "rows", 0)
            self.refused(STEP, ("bound", 3, ROWS + (thing,), "a"), "rows", 3)
            self.refused(STEP, ("bound", 3, ROWS[:1] + (thing,) + ROWS[1:] + (thing, None), "a"), "rows", 1)

    def test_k_and_one_is_a_cut_price(self):
        self.refused(STEP, ("bound", 3, ROWS + ((None, 4),), "a"), "end", 3)
        self.refused(STEP, ("bound", 3, ROWS + ((None, 5),), "a"), "rows", 3)
        # 4 at room 0, no end, is led on to 4 at room 1, the end.
        self.refused(STEP, ("bound", 3, ROWS + ((4, None), (None, 4)), "a"), "end", 4)
        self.let_by(TWO, ("bound", 0, ((0, None), NOWHERE, (0, 1)), ""))
        self.refused(TWO, ("bound", 0, ((0, None), NOWHERE, (0, 2)), ""), "rows", 2)


class First(Looked):
    def test_the_first_row_is_none_of_them(self):
        self.refused(STEP, ("bound", 3, ROWS[1:], "a"), "first")
        self.refused(STEP, ("bound", 3, (NOWHERE,), "a"), "first")
        self.refused(FREE, ("bound", 0, ((1,), (None,)), ""), "first")
        self.refused(NO_BEGIN, ("bound", 0, ((0, None),), None), "first")

    def test_wherever_it_stands(self):
        self.let_by(STEP, ("bound", 3, (NOWHERE, (None, 3), (0, None)), "a"))


class Led(Looked):
    def test_it_comes_to_none_of_them(self):
        self.refused(STEP, ("bound", 3, ((0, None),), "a"), "led", 0)
        self.refused(STEP, ("bound", 3, ROWS[:2], "a"), "led", 1)
        self.refused(STEP, ("bound", 3, (NOWHERE, (0, None)), "a"), "led", 1)
        self.refused(STEP, ("bound", 3, ROWS + ((1, None), (2, None)), "a"), "led", 3)

    def test_by_each_letter(self):
        rows = ((0, None), (None, 0))
        for at, letter in enumerate("abc"):
            doors = [(0, "a", 0, 0), (0, "b", 0, 0), (0, "c", 0, 0)]
            doors[at] = (0, letter, 1, 1)
            machine = (3, 2, (0,), (0,), tuple(doors) + tuple((1, one, 1, 0) for one in "abc"))
            self.refused(machine, ("bound", 0, rows, ""), "led", 0)
            self.let_by(machine, ("bound", 0, rows + ((None, 1),), ""))

    def test_letters_that_it_does_not_know(self):
        # By b the row would come to nowhere, but the machine knows a alone.
        self.let_by((1,) + FREE[1:4] + (((0, "a", 0, 0),),), ("bound", 0, ((0,),), ""))
        self.refused((2,) + FREE[1:4] + (((0, "a", 0, 0),),), ("bound", 0, ((0,),), ""), "led", 0)

    def test_cut_at_k(self):
        counter = (1, 2, (0, 1), (1,), ((0, "a", 0, 2), (1, "a", 1, 0)))
        self.let_by(counter, ("bound", 0, ((0, 0), (1, 0)), "a"))
        self.refused(counter, ("bound", 0, ((0, 0),), "a"), "led", 0)


class End(Looked):
    def test_the_first_that_ends_above(self):
        machine = (1, 2, (0, 1), (0, 1), ((0, "a", 0, 1), (1, "a", 1, 1)))
        rows = ((0, 0), (1, 1), (2, 2))
        self.refused(machine, ("bound", 1, rows, "a"), "end", 2)
        self.refused(machine, ("bound", 1, rows[::-1], "a"), "end", 0)
        self.refused(machine, ("bound", 1, rows + rows, "a"), "end", 2)

    def test_the_least_counts(self):
        machine = (1, 2, (0, 1), (0, 1), ((0, "a", 0, 1), (1, "a", 1, 0)))
        self.let_by(machine, ("bound", 0, ((0, 0), (1, 0)), "a"))

    def test_rooms_that_are_no_ends(self):
        machine = (1, 2, (0, 1), (1,), ((0, "a", 0, 1), (1, "a", 1, 0)))
        self.let_by(machine, ("bound", 0, ((0, 0), (1, 0)), "a"))


class Word(Looked):
    def test_no_word(self):
        for word in (None, 0, 3, True, ["a"], ("a",), [], (), "b", "A", "a ", " a", "ab", "aa", "", "-", "c" * 300):
            self.refused(STEP, ("bound", 3, ROWS, word), "word")

    def test_none_where_the_purse_is_not_0(self):
        rows = ((0, 0), (1, 1))
        self.let_by(NO_END, ("bound", 0, rows, None))
        more = rows + ((2, 2), (3, 3), (4, 4))
        self.refused(NO_END, ("bound", 3, more, None), "word")
        self.refused(NO_END, ("bound", 1, more[:3], None), "word")

    def test_none_where_some_row_ends_at_a_number(self):
        self.refused(FREE, ("bound", 0, ((0,),), None), "word")
        lost = (1, 2, (0,), (1,), ())
        self.let_by(lost, ("bound", 0, ((0, None), NOWHERE), None))
        # No word has the last row; but it ends at a number.
        self.refused(lost, ("bound", 0, ((0, None), NOWHERE, (None, 0)), None), "word")
        self.refused(lost, ("bound", 0, ((None, 0), (0, None), NOWHERE), None), "word")

    def test_a_text_where_no_word_is_let_by(self):
        for word in ("", "a", "aa"):
            self.refused(NO_END, ("bound", 0, ((0, 0), (1, 1)), word), "word")

    def test_three_hundred_letters(self):
        rows = ((0,),)
        for long in (200, 201, 299, 300):
            self.let_by(FREE, ("bound", 0, rows, "ab" * (long // 2) + "a" * (long % 2)))
        for long in (301, 302, 2000, 20000):
            self.refused(FREE, ("bound", 0, rows, "a" * long), "word")

    def test_letters_that_it_does_not_know(self):
        for word in ("c", "abc", "aba ", "d", "a" * 299 + "c", "c" + "a" * 299):
            self.refused(FREE, ("bound", 0, ((0,),), word), "word")

    def test_another_price(self):
        machine = (2, 2, (0,), (0, 1), ((0, "a", 1, 1), (0, "b", 1, 2)))
        rows = ((0, None), (None, 1), (None, 2), NOWHERE)
        self.let_by(machine, ("bound", 2, rows, "b"))
        for word in ("a", "", "ab", "bb"):
            self.refused(machine, ("bound", 2, rows, word), "word")
        self.refused(machine, ("bound", 3, rows, "b"), "word")


class Makings(Looked):
    def test_no_makings(self):
        for thing in ODD_THINGS + [[A], [A, ("sharp", 0)], "a", (A,) * 101]:
            self.refused(ONE_ROOM, ("none", thing), "making", 0)

    def test_the_number_of_the_step(self):
        self.refused(ONE_ROOM, ("none", (A, ("sharp", 1))), "making", 1)
        self.refused(ONE_ROOM, ("none", (A, ("sharp", 0), None)), "making", 2)
        self.refused(ONE_ROOM, ("none", (A, A, A, ("letter", "b"), ("sharp", 0))), "making", 3)
        self.refused(ONE_ROOM, ("none", (A,) * 99 + ([],)), "making", 99)
        swap = (1, 2, (0,), (0,), ((0, "a", 1, 1), (1, "a", 0, 1)))
        self.refused(swap, ("none", (A, ("sharp", 0), ("pair", 0, 0))), "making", 1)
        self.let_by(swap, ("none", (A, ("pair", 0, 0), ("sharp", 1))))

    def test_another_end_sign(self):
        self.refused(ONE_ROOM, ("none", (A,)), "sign")
        self.refused(ONE_ROOM, ("none", (A, ("sharp", 0), A)), "sign")
        self.refused(FREE, ("none", (A, ("sharp", 0))), "sign")
        self.refused(NO_END, ("none", (A,)), "sign")
        self.refused(NO_BEGIN, ("none", (A, ("pair", 0, 0), ("sharp", 1))), "sign")
        self.let_by(ONE_ROOM, ("none", (A, ("sharp", 0), ("pair", 0, 1))))

    def test_just_begins_and_ends_count(self):
        doors = ((0, "a", 0, 1), (1, "a", 1, 0))
        makings = (A, ("sharp", 0))
        self.let_by((1, 2, (0,), (0,), doors), ("none", makings))
        self.refused((1, 2, (1,), (1,), doors), ("none", makings), "sign")
        self.refused((1, 2, (0, 1), (0, 1), doors), ("none", makings), "sign")
        self.refused((1, 2, (0,), (1,), doors), ("none", makings), "sign")

    def test_a_hundred_steps(self):
        self.let_by(ONE_ROOM, ("none", (A,) * 98 + (("sharp", 97), ("pair", 98, 0))))


class Order(Looked):
    def test_the_first_fault_is_told(self):
        # Each has all the faults of those behind it, too.
        wrong = (("bound", -1, ((0,), (None, 4)), 5), ("bound", 3, ((None, 4), (1, None), 7), 5),
                 ("bound", 3, ((None, 4), (1, None)), 5), ("bound", 3, ((None, 4), (0, None), (1, None)), 5),
                 ("bound", 3, ((None, 4), (0, None), (None, 3), NOWHERE), 5), ("bound", 3, ROWS, 5))
        told = (("purse", 0), ("rows", 2), ("first", 0), ("led", 0), ("end", 0), ("word", 0))
        for thing, fault in zip(wrong, told):
            self.refused(STEP, thing, fault[0], fault[1])

    def test_a_row_that_is_none_goes_ahead_of_the_first_row(self):
        self.refused(STEP, ("bound", 3, ((None, 3), (0, 5)), "a"), "rows", 1)

    def test_led_goes_ahead_of_end(self):
        self.refused(STEP, ("bound", 3, ((None, 4), NOWHERE, (0, None)), "a"), "led", 2)
        self.refused(STEP, ("bound", 3, ((None, 4), NOWHERE, (0, None), (None, 3)), "a"), "end", 0)

    def test_end_goes_ahead_of_word(self):
        self.refused(STEP, ("bound", 3, ROWS + ((None, 4),), None), "end", 3)

    def test_making_goes_ahead_of_sign(self):
        self.refused(FREE, ("none", (A, ("sharp", 0), ("sharp", 2))), "making", 2)


class Own(Looked):
    def test_nothing_is_changed(self):
        thing = ["bound", 3, [[0, None], [None, 3]], "a"]
        self.refused(STEP, thing, "paper")
        self.refused(STEP, tuple(thing), "rows")
        self.refused(STEP, ("bound", 3, tuple(thing[2]), "a"), "rows", 0)
        self.assertEqual(thing, ["bound", 3, [[0, None], [None, 3]], "a"])

    def test_papers_of_other_machines(self):
        # No purse is enough or one is: what is let by for one machine alone can't be both.
        for machine in made_machines(131, 200):
            passed = []
            for thing in (PAPER, ("none", (A, ("sharp", 0))), ("bound", 0, ((0,),), ""),
                          ("bound", 0, (NOWHERE,), None), ("bound", 0, ((0, None), NOWHERE), "")):
                try:
                    look(machine, thing)
                except NoPaper:
                    continue
                passed.append(thing[0])
            self.assertLessEqual(len(set(passed)), 1)


if __name__ == "__main__":
    unittest.main()
