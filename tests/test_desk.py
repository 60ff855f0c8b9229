import unittest

from leasttolls.desk import Desk
from leasttolls.errors import NoName, NoPair, NoRow, NoText, TollError, TooMuch
from leasttolls.judge import judge
from leasttolls.machinetexts import machine_text, read_machine
from leasttolls.makings import signs_made
from leasttolls.pieces import pieces_machine, set_machine
from leasttolls.roads import is_road, toll
from leasttolls.settexts import read_set
from leasttolls.several import behind, lesser, summed, turned
from leasttolls.signs import end_sign
from leasttolls.tables import price
from samples import (
    EIGHTY_ONE, NAMED, NO_BEGIN, ONE_ROOM, PLAIN, least_number, made_machines, words_up_to,
)

STEP = (2, 2, (0,), (1,), ((0, "a", 1, 1), (1, "b", 1, 2)))
LOOP = (2, 1, (0,), (0,), ((0, "a", 0, 1), (0, "b", 0, 0)))
FREE = (2, 1, (0,), (0,), ((0, "a", 0, 0), (0, "b", 0, 0)))


def desk_with(machines):
    desk = Desk()
    for name, machine in machines.items():
        desk.say(f"machine {name}\n" + machine_text(machine))
    return desk


class Desks(unittest.TestCase):
    def refused(self, refusal, desk, text):
        with self.assertRaises(TollError) as caught:
            desk.say(text)
        self.assertIs(type(caught.exception), refusal, text)

    def stands(self, desk, name, machine, long=3):
        """By the name stands a machine that has the prices of the one told."""
        told = read_machine(desk.say("show " + name))
        self.assertEqual(told[0], machine[0])
        for word in words_up_to(machine, long):
            self.assertEqual(least_number(told, word), least_number(machine, word), word)
            number = least_number(machine, word)
            self.assertEqual(desk.say(f"price {name} {word or '-'}"), "none" if number is None else str(number))


class Rows(Desks):
    def test_machine_and_show(self):
        for machine in NAMED + made_machines(301, 40):
            desk = Desk()
            text = machine_text(machine)
            self.assertEqual(desk.say("machine x\n" + text), "ok")
            self.assertEqual(desk.say("show x"), text)

    def test_words_and_pieces(self):
        desk = Desk()
        for text in ("a", "-", "(a|(a.b))", "(a*.b)", "((a|b).(b|c))", "(-|a)*", "a***********"):
            self.assertEqual(desk.say("words w\n" + text), "ok")
            self.assertEqual(desk.say("pieces p\n" + text), "ok")
            self.stands(desk, "w", set_machine(read_set(text)))
            self.stands(desk, "p", pieces_machine(read_set(text)))
        self.assertEqual(desk.say("pieces q\n(a|(a.b))"), "ok")
        self.assertEqual([desk.say("price q " + word) for word in ("-", "a", "ab", "aab", "b")],
                         ["0", "1", "1", "2", "none"])
        self.assertEqual(desk.say("words q\n(a|(a.b))"), "ok")
        self.assertEqual([desk.say("price q " + word) for word in ("-", "a", "ab", "aab")], ["none", "0", "0", "none"])

    def test_several(self):
        for row, bring in (("sum", summed), ("lesser", lesser), ("behind", behind)):
            for one, other in ((STEP, LOOP), (LOOP, STEP), (LOOP, LOOP)):
                desk = desk_with({"one": one, "other": other})
                self.assertEqual(desk.say(f"{row} new one other"), "ok")
                self.stands(desk, "new", bring(one, other))
                self.stands(desk, "one", one)
                self.stands(desk, "other", other)
        desk = desk_with({"one": PLAIN})
        self.assertEqual(desk.say("turn new one"), "ok")
        self.stands(desk, "new", turned(PLAIN))
        self.stands(desk, "one", PLAIN)

    def test_which_is_the_one_and_which_the_other(self):
        desk = desk_with({"one": STEP, "other": LOOP})
        desk.say("behind x one other")
        desk.say("behind y other one")
        self.assertEqual([desk.say("price x " + word) for word in ("ab", "aba", "ba")], ["1", "2", "none"])
        self.assertEqual([desk.say("price y " + word) for word in ("ab", "aba", "ba")], ["3", "2", "1"])

    def test_new_the_same_as_one_or_other(self):
        for row, bring in (("sum", summed), ("lesser", lesser), ("behind", behind)):
            for said, one, other in (("one one other", STEP, LOOP), ("other one other", STEP, LOOP),
                                     ("one one one", LOOP, LOOP), ("other other one", LOOP, STEP)):
                desk = desk_with({"one": STEP if said != "one one one" else LOOP, "other": LOOP})
                self.assertEqual(desk.say(row + " " + said), "ok")
                self.stands(desk, said.split(" ")[0], bring(one, other))
        desk = desk_with({"x": PLAIN})
        self.assertEqual(desk.say("turn x x"), "ok")
        self.stands(desk, "x", turned(PLAIN))
        self.assertEqual(desk.say("turn x x"), "ok")
        self.stands(desk, "x", PLAIN)

    def test_a_name_taken_anew(self):
        desk = desk_with({"x": PLAIN, "y": STEP})
        desk.say("machine x\n" + machine_text(LOOP))
        self.stands(desk, "x", LOOP)
        desk.say("lesser y x x")
        self.stands(desk, "y", LOOP)
        desk.say("pieces x\n(a.b)")
        self.stands(desk, "x", pieces_machine(read_set("(a.b)")))
        self.stands(desk, "y", LOOP)

    def test_two_desks(self):
        one = desk_with({"x": PLAIN})
        other = desk_with({"x": LOOP, "y": STEP})
        self.stands(one, "x", PLAIN)
        self.stands(other, "x", LOOP)
        self.refused(NoName, one, "show y")
        self.refused(NoName, Desk(), "show x")
        one.say("turn x x")
        self.stands(other, "x", LOOP)

    def test_price(self):
        desk = desk_with({"x": STEP, "e": LOOP})
        self.assertEqual([desk.say("price x " + word) for word in ("a", "ab", "abb", "b", "-", "aa")],
                         ["1", "3", "5", "none", "none", "none"])
        self.assertEqual([desk.say("price e " + word) for word in ("-", "a", "aaa", "bbb")], ["0", "1", "3", "0"])
        self.assertEqual(desk.say("price e " + "a" * 200), "200")

    def test_road(self):
        desk = desk_with({"x": STEP, "e": LOOP})
        self.assertEqual([desk.say("road x " + word) for word in ("a", "ab", "abb", "b", "-", "aa")],
                         ["0", "0 1", "0 1 1", "none", "none", "none"])
        self.assertEqual(desk.say("road e -"), "")
        self.assertEqual(desk.say("road e ba"), "1 0")

    def test_roads_are_of_least_toll(self):
        for machine in NAMED + made_machines(302, 60):
            desk = desk_with({"x": machine})
            for word in words_up_to(machine, 3):
                told = desk.say("road x " + (word or "-"))
                if least_number(machine, word) is None:
                    self.assertEqual(told, "none")
                else:
                    places = [int(place) for place in told.split(" ")] if told else []
                    self.assertEqual(" ".join(str(place) for place in places), told)
                    self.assertTrue(is_road(machine, word, places))
                    self.assertEqual(toll(machine, places), least_number(machine, word))

    def test_judge(self):
        desk = desk_with({"x": (2, 3, (0,), (2,), ((0, "a", 1, 1), (0, "b", 1, 2), (1, "a", 2, 0), (1, "b", 2, 3))),
                          "empty": FREE, "never": NO_BEGIN, "ever": ONE_ROOM,
                          "late": (1, 2, (0,), (1,), ((0, "a", 1, 0),))})
        self.assertEqual(desk.say("judge x"), "purse 5 bb")
        self.assertEqual(desk.say("judge empty"), "purse 0 -")
        self.assertEqual(desk.say("judge never"), "purse 0")
        self.assertEqual(desk.say("judge late"), "purse 0 a")
        self.assertEqual(desk.say("judge ever"), "none\nletter a\nsharp 0")

    def test_judge_as_the_machine_itself(self):
        told = set()
        for machine in NAMED + made_machines(303, 120):
            desk = desk_with({"x": machine})
            try:
                expected = judge(machine)
            except TooMuch:
                self.refused(TooMuch, desk, "judge x")
                continue
            rows = desk.say("judge x").split("\n")
            told.add((rows[0].split(" ")[0], len(rows[0].split(" "))))
            if expected[0] == "bound":
                words = [] if expected[2] is None else [expected[2] or "-"]
                self.assertEqual(rows, [" ".join(["purse", str(expected[1])] + words)])
            else:
                self.assertEqual(rows[0], "none")
                steps = [row.split(" ") for row in rows[1:]]
                makings = tuple(
                    tuple(step) if step[0] == "letter" else (step[0],) + tuple(int(number) for number in step[1:])
                    for step in steps
                )
                self.assertEqual(end_sign(machine, signs_made(machine, makings)[-1]), 2)
        self.assertEqual(told, {("purse", 2), ("purse", 3), ("none", 1)})


class Refusals(Desks):
    def desk(self):
        return desk_with({"x": STEP, "y": LOOP, "three": (3, 1, (0,), (0,), ()), "much": EIGHTY_ONE[0]})

    def test_first_rows_that_are_none(self):
        for text in ("", " ", "\n", "x", "show", "price", "price x", "road x", "judge", "machine", "words", "pieces", "sum",
                     "sum x", "sum x y", "sum x y y y", "lesser n x", "behind n x", "turn", "turn x", "turn n x y", "show x y",
                     "judge x x", "price x a b", "road x a b", "Show x", "shows x", "look x", "help", "ok", "paper x",
                     "SHOW x", "show\nx", "x show", "machine x y\n", "words x y\na", "pieces x a\na", "summed n x y",
                     "turned n x", "words\na", "-", "show x\n\n"):
            self.refused(NoRow, self.desk(), text)

    def test_blanks(self):
        for text in (" show x", "show  x", "show x ", "show ", " judge x", "judge x ", "price x  a", "price  x a", "price x a ",
                     " price x a", "price x ", "road x ", "road  x a", "sum n  x y", "sum n x y ", " sum n x y", "turn n  x",
                     "price x -  ", "price  - x"):
            self.refused(NoRow, self.desk(), text)
        for row in ("machine", "words", "pieces"):
            for text in (f" {row} n\na", f"{row}  n\na", f"{row} n \na", f"{row} \na", f"{row}  \na"):
                self.refused(NoRow, self.desk(), text)

    def test_names(self):
        for name in ("abcdefghi", "X", "xY", "x1", "1", "-", "a-b", "a.b", "a_b", "~", "aaaaaaaaa", "a" * 2000, "a" * 7 + "B"):
            for text in (f"machine {name}\n" + machine_text(STEP), f"words {name}\na", f"pieces {name}\na",
                         f"sum {name} x y", f"sum n {name} y", f"sum n x {name}", f"lesser {name} x y",
                         f"lesser n {name} y", f"lesser n x {name}", f"behind {name} x y", f"behind n {name} y",
                         f"behind n x {name}", f"turn {name} x", f"turn n {name}", f"show {name}", f"price {name} a",
                         f"road {name} a", f"judge {name}"):
                self.refused(NoRow, self.desk(), text)
        for name in ("a", "z", "abcdefgh", "zzzzzzzz", "show", "price", "none", "machine", "ok"):
            desk = Desk()
            self.assertEqual(desk.say(f"pieces {name}\na"), "ok")
            self.assertEqual(desk.say(f"price {name} aa"), "2")
            self.assertEqual(desk.say(f"turn {name} {name}"), "ok")

    def test_line_ends_where_none_is_due(self):
        for text in ("show x", "price x a", "road x a", "judge x", "sum n x y", "lesser n x y", "behind n x y", "turn n x"):
            desk = self.desk()
            for behind_it in ("\n", "\n\n", "\na", "\n" + machine_text(STEP), "\nshow x"):
                self.refused(NoRow, desk, text + behind_it)
            self.refused(NoRow, desk, "\n" + text)
            self.refused(NoName, desk, "show n")

    def test_no_line_end_where_something_is_due(self):
        for row in ("machine", "words", "pieces"):
            self.refused(NoRow, self.desk(), row + " n")
            self.refused(NoText, self.desk(), row + " n\n")

    def test_names_by_which_nothing_stands(self):
        for text in ("show n", "price n a", "road n a", "judge n", "turn n n", "turn x n", "sum n n x", "sum n x n", "sum x x n",
                     "lesser n n x", "lesser n x n", "behind n n x", "behind n x n", "behind x n n", "show machine"):
            self.refused(NoName, self.desk(), text)

    def test_texts_behind(self):
        for text in ("", " ", "x", "\n", "a", machine_text(STEP) + "\n", "\n" + machine_text(STEP), machine_text(STEP) + " "):
            self.refused(NoText, self.desk(), "machine n\n" + text)
        for row in ("words", "pieces"):
            for text in ("", " ", "x", "\n", "a\n", "\na", "ab", "(a)", "a|b", machine_text(STEP), "a" + "*" * 12, "(a|b)\n(a|b)"):
                self.refused(NoText, self.desk(), f"{row} n\n{text}")

    def test_words_that_are_none_of_the_machines(self):
        for row in ("price", "road"):
            for word in ("c", "ac", "A", "--", "a-", "-a", "1", "x", "none", "a" * 201, "d", "~", "ab" * 200):
                self.refused(NoText, self.desk(), f"{row} x {word}")
            self.assertEqual(self.desk().say(f"{row} three c"), "none")
            self.assertEqual(self.desk().say(f"{row} x {'a' * 200}"), "none")

    def test_what_the_functions_refuse(self):
        for row in ("words", "pieces"):
            self.refused(TooMuch, self.desk(), row + " n\n((a|b)|(c|(a|b)))")
            self.assertEqual(self.desk().say(row + " n\n((a|b)|(c|a))"), "ok")
        for row in ("sum", "lesser", "behind"):
            self.refused(NoPair, self.desk(), row + " n x three")
            self.refused(NoPair, self.desk(), row + " n three x")
            self.refused(TooMuch, self.desk(), row + " n much x")
            self.refused(NoPair, self.desk(), row + " n much three")
        self.refused(TooMuch, self.desk(), "judge much")

    def test_two_or_three_due_at_once(self):
        desk = self.desk()
        # A row that is none goes ahead of all, then a name that doesn't stand, then a text, then what is refused.
        self.refused(NoRow, desk, "price nn c\n")
        self.refused(NoRow, desk, "price X c")
        self.refused(NoName, desk, "price nn c")
        self.refused(NoName, desk, "road nn " + "a" * 201)
        self.refused(NoRow, desk, "machine N\nx")
        self.refused(NoRow, desk, "words abcdefghi\n((a|b)|(c|(a|b)))x")
        self.refused(NoText, desk, "words n\n((a|b)|(c|(a|b)))x")
        self.refused(NoText, desk, "pieces n\n((a|b)|(c|(a|b)))*\n")
        self.refused(NoRow, desk, "sum N nn three")
        self.refused(NoRow, desk, "sum n nn THREE")
        self.refused(NoRow, desk, "sum n nn three\n")
        self.refused(NoName, desk, "sum n nn three")
        self.refused(NoName, desk, "lesser n three nn")
        self.refused(NoName, desk, "behind n much nn")
        self.refused(NoRow, desk, "judge much\n")
        self.refused(NoRow, desk, "look nn\nx")

    def test_what_is_refused_changes_nothing(self):
        desk = self.desk()
        held = {name: desk.say("show " + name) for name in ("x", "y", "three", "much")}
        for text in ("machine x\nx", "machine x", "machine n\n", "words x\nab", "words n\n((a|b)|(c|(a|b)))",
                     "words x\n((a|b)|(c|(a|b)))", "pieces x\n", "pieces y\n((a|b)|(c|(a|b)))", "sum x x three", "sum n x three",
                     "lesser x much x", "behind y much x", "turn x n", "turn n n", "sum x x n", "lesser n x n", "turn x y\n",
                     "price x c", "road y c", "judge much", "machine X\n" + held["y"], "machine x\n" + held["y"] + "\n"):
            with self.assertRaises(TollError):
                desk.say(text)
            self.assertEqual({name: desk.say("show " + name) for name in held}, held)
            self.refused(NoName, desk, "show n")

    def test_asking_changes_nothing(self):
        desk = self.desk()
        held = {name: desk.say("show " + name) for name in ("x", "y", "three", "much")}
        for text in ("price x ab", "road x ab", "judge x", "judge y", "show y", "price three c", "road y -"):
            told = desk.say(text)
            self.assertEqual(desk.say(text), told)
        self.assertEqual({name: desk.say("show " + name) for name in held}, held)

    def test_what_was_told_may_be_handed_in_again(self):
        desk = self.desk()
        desk.say("behind n x y")
        desk.say("machine m\n" + desk.say("show n"))
        self.assertEqual(desk.say("show m"), desk.say("show n"))
        self.assertEqual(price(read_machine(desk.say("show m")), "aba"), 2)


if __name__ == "__main__":
    unittest.main()
