"""What the document promises over the whole program: sets, their machines of pieces, judgements, papers, the desk."""

import copy
import random
import unittest

from leasttolls.dearer import dearer
from leasttolls.desk import Desk
from leasttolls.errors import TooMuch
from leasttolls.judge import judge, paper
from leasttolls.looker import look
from leasttolls.machinetexts import machine_text, read_machine
from leasttolls.pieces import cut_up, pieces_machine, set_machine
from leasttolls.roads import road, tolls
from leasttolls.rows import rows_met
from leasttolls.sets import holds
from leasttolls.settexts import read_set, set_text
from leasttolls.several import behind, lesser, summed, turned
from leasttolls.tables import price
from leasttolls.unrolled import lengths, table_unrolled, word_unrolled
from samples import EIGHTY, NAMED, PLAIN, fewest_pieces, least_number, letters_in, made_machines, made_set, words_up_to

THREE_LETTERS = (3, 1, (), (), ())

# Sets of which so many pieces are enough, with the first word that needs just so many.
ENOUGH = [
    ("-", 0, ""),
    ("a*", 1, "a"),
    ("(a|b)*", 1, "a"),
    ("((a|-).b)*", 1, "b"),
    ("(a|(a.a)*)", 2, "aaa"),
    ("(a.(a.a)*)", 2, "aa"),
    ("(a*|(b.a*)*)", 2, "ab"),
    ("(a|(a.(a.a))*)", 3, "aaaaa"),
    ("(a*|(b.(a*.b)*))", 3, "aba"),
    ("(a*|((b.a*)*.b))", 3, "aba"),
]

# Sets of which no number of pieces is enough.
EVER_MORE = ["a", "(a|b)", "(a.b)", "(a|(a.a))", "(a|(a.b))", "(a.b*)", "(a*.b)", "(a*.b*)", "(a*|b*)", "(a|(b.(a|b)*))",
             "((a.b)*|c)", "(a|(-|(b.c)))"]


def sets_of_four(seed, many):
    chance = random.Random(seed)
    found = []
    while len(found) < many:
        words = made_set(chance, chance.randint(1, 11), 6)
        if letters_in(words) <= 4:
            found.append(words)
    return found


class Pieces(unittest.TestCase):
    def needs(self, words, word):
        """How many pieces a word needs; what the program tells of it is the same."""
        number = fewest_pieces(words, word)
        told = cut_up(words, word)
        self.assertEqual(None if told is None else len(told), number)
        self.assertEqual(price(pieces_machine(words), word), number)
        return number

    def check_bound(self, words, told, long):
        self.assertEqual(self.needs(words, told[2]), told[1])
        for word in words_up_to(THREE_LETTERS, long):
            number = fewest_pieces(words, word)
            self.assertTrue(number is None or number <= told[1], (words, word))

    def check_ever_more(self, words, makings):
        machine = pieces_machine(words)
        for n in range(6):
            if lengths(machine, makings, n)[-1] <= 40:
                self.assertGreater(self.needs(words, word_unrolled(machine, makings, n)), n)
        for n in (0, 1, 7, 1000, 10 ** 30):
            table = table_unrolled(machine, makings, n)
            numbers = [table[0][goal] for goal in machine[3] if table[0][goal] is not None]
            self.assertGreater(min(numbers), n)

    def test_so_many_pieces_are_enough(self):
        for text, many, word in ENOUGH:
            words = read_set(text)
            self.assertEqual(judge(pieces_machine(words)), ("bound", many, word), text)
            self.check_bound(words, ("bound", many, word), 5)

    def test_no_number_of_pieces_is_enough(self):
        for text in EVER_MORE:
            words = read_set(text)
            told = judge(pieces_machine(words))
            self.assertEqual(told[0], "none", text)
            self.check_ever_more(words, told[1])

    def test_made_sets(self):
        seen = set()
        refused = 0
        for words in sets_of_four(311, 150):
            machine = pieces_machine(words)
            try:
                told = judge(machine)
            except TooMuch:
                refused += 1
                continue
            seen.add(told[0])
            self.assertIsNone(look(machine, paper(machine)))
            if told[0] == "bound":
                self.check_bound(words, told, 4)
            else:
                self.check_ever_more(words, told[1])
        self.assertEqual(seen, {"bound", "none"})
        self.assertLess(refused, 5)

    def test_told_by_a_text_to_a_desk(self):
        for text, many, word in ENOUGH:
            desk = Desk()
            desk.say("pieces p\n" + text)
            self.assertEqual(desk.say("judge p"), f"purse {many} {word or '-'}")
            self.assertEqual(desk.say("price p " + (word or "-")), str(many))
            desk.say("words w\n" + text)
            self.assertEqual(desk.say("judge w").split(" ")[:2], ["purse", "0"])
        for text in EVER_MORE:
            desk = Desk()
            desk.say("pieces p\n" + text)
            rows = desk.say("judge p").split("\n")
            self.assertEqual(rows[0], "none")
            self.assertTrue(rows[1].startswith("letter "))


class Texts(unittest.TestCase):
    def test_a_machine_told_as_a_text_is_judged_as_the_machine_itself(self):
        for machine in NAMED + EIGHTY + made_machines(312, 100):
            read = read_machine(machine_text(machine))
            self.assertEqual(read, machine)
            try:
                told = judge(machine)
            except TooMuch:
                with self.assertRaises(TooMuch):
                    judge(read)
                continue
            desk = Desk()
            desk.say("machine x\n" + machine_text(machine))
            first = desk.say("judge x").split("\n")[0]
            if told[0] == "none":
                self.assertEqual(first, "none")
            elif told[2] is None:
                self.assertEqual(first, "purse 0")
            else:
                self.assertEqual(first, f"purse {told[1]} {told[2] or '-'}")

    def test_brought_machines_are_judged_too(self):
        dear = (2, 2, (0,), (1,), ((0, "a", 1, 2), (0, "b", 1, 1)))
        cheap = (2, 1, (0,), (0,), ((0, "a", 0, 0), (0, "b", 0, 1)))
        self.assertEqual(judge(dear), ("bound", 2, "a"))
        self.assertEqual(judge(summed(dear, cheap)), ("bound", 2, "a"))
        self.assertEqual(judge(behind(dear, dear)), ("bound", 4, "aa"))
        self.assertEqual(judge(lesser(dear, dear)), ("bound", 2, "a"))
        self.assertEqual(judge(turned(behind(dear, dear))), ("bound", 4, "aa"))
        self.assertEqual(judge(behind(dear, cheap))[0], "none")
        for machine in (summed(dear, cheap), behind(dear, cheap), lesser(dear, cheap), turned(dear)):
            self.assertIsNone(look(machine, paper(machine)))


class OwnLists(unittest.TestCase):
    def check_own(self, ask):
        told = ask()
        held = copy.deepcopy(told)
        other = ask()
        told.append(told)
        del told[0]
        told.clear()
        self.assertEqual(other, held)
        self.assertEqual(ask(), held)

    def test_a_told_list_is_the_askers_own(self):
        words = read_set("(a|(a.b))")
        self.check_own(lambda: cut_up(words, "aabab"))
        machine = pieces_machine(words)
        self.check_own(lambda: road(machine, "aabab"))
        self.check_own(lambda: tolls(machine, "aabab"))
        self.check_own(lambda: rows_met(machine, 2))

    def test_nothing_handed_in_is_changed_and_what_was_told_may_be_handed_in_again(self):
        words = read_set("((a|b).c*)")
        held = copy.deepcopy(words)
        machine = lesser(pieces_machine(read_set("(a.b)")), set_machine(read_set("c")))
        kept = copy.deepcopy(machine)
        for word in ("", "ab", "c", "abab", "cc"):
            holds(words, word)
            cut_up(words, word)
            price(machine, word)
        self.assertEqual(read_set(set_text(words)), held)
        self.assertEqual([price(turned(machine), word) for word in ("", "ba", "c", "baba", "cc")], [0, 1, 0, 2, None])
        self.assertEqual(read_machine(machine_text(machine)), kept)
        self.assertIsNone(dearer(machine, machine, 1, 4))
        self.assertEqual((words, machine), (held, kept))
        self.assertEqual(least_number(machine, "ab"), 1)

    def test_a_desk_told_of_a_machine_keeps_it(self):
        desk = Desk()
        desk.say("machine x\n" + machine_text(PLAIN))
        told = [desk.say("road x aab"), desk.say("price x aab"), desk.say("judge x")]
        desk.say("turn y x")
        desk.say("pieces z\na")
        self.assertEqual([desk.say("road x aab"), desk.say("price x aab"), desk.say("judge x")], told)


if __name__ == "__main__":
    unittest.main()
