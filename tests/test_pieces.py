import random
import unittest

from leasttolls.errors import TollError, TooMuch
from leasttolls.machines import is_machine
from leasttolls.pieces import cut_up, pieces_machine, set_machine
from leasttolls.settexts import read_set
from leasttolls.tables import price
from samples import fewest_pieces, joined, least_number, letters_in, made_set, made_word, pieces_of, spans, words_up_to

SHORT = list(words_up_to((3, 1, (), (), ()), 3))

# With the empty word; words that are the beginning or the end of others; letters that stand several times.
TEXTS = [
    "a", "b", "c", "-", "-*", "a*", "(-|a)", "(a|b)", "(a.b)", "(a|(a.a))", "(a|(a.b))", "(a|(a.(a.b)))", "(b|(a.b))",
    "((a.b)|(b.a))", "(a|(a.(a.a)))", "(a.b*)", "(a*.b)", "((a|b).(a|b))", "((a|b)|(a.b))", "(a.(b.c))",
    "((a.b)*|c)", "((a*.b*)|c)", "((-|a).(b|-))", "(a|(b|(c|a)))", "((a.a).(a.a))", "(a|((a.a).a))", "(a|(a.a)*)",
    "(a*|(b.(a*.b)*))", "(((-|a).-)*|(-.-))", "((a.b).(a.b))*", "(-|((a.b).(c.a)))", "((a.a)*|(b.b)*)",
]


def sets_of_letters(seed, most, many):
    """Made sets of at most so many letters, of any number of other pieces."""
    chance = random.Random(seed)
    found = []
    while len(found) < many:
        words = made_set(chance, chance.randint(1, 14), 7)
        if letters_in(words) <= most:
            found.append(words)
    return found


def few_letters():
    return [read_set(text) for text in TEXTS] + sets_of_letters(281, 4, 250)


def longer_words(chance, words, many):
    """Words of some length, of which many are pieced together of the set's."""
    found = [made_word(chance, 3, chance.randint(4, 12)) for at in range(many)]
    pieces = [word for word in SHORT if word and len(word) in spans(words, word)[0]]
    if pieces:
        found.extend("".join(chance.choice(pieces) for at in range(chance.randint(2, 9))) for again in range(many))
    return found


class Machines(unittest.TestCase):
    def check_machine(self, machine):
        self.assertIs(is_machine(machine), True, machine)
        self.assertEqual(machine[0], 3)

    def test_the_words_of_a_set_at_0(self):
        chance = random.Random(282)
        inside = 0
        for words in few_letters():
            machine = set_machine(words)
            self.check_machine(machine)
            for word in SHORT + longer_words(chance, words, 4):
                expected = 0 if len(word) in spans(words, word)[0] else None
                self.assertEqual(least_number(machine, word), expected, (words, word))
                self.assertEqual(price(machine, word), expected)
                inside += expected is not None
        self.assertGreater(inside, 1000)

    def test_the_fewest_pieces(self):
        chance = random.Random(283)
        told = set()
        for words in few_letters():
            machine = pieces_machine(words)
            self.check_machine(machine)
            for word in SHORT + longer_words(chance, words, 4):
                expected = fewest_pieces(words, word)
                self.assertEqual(least_number(machine, word), expected, (words, word))
                self.assertEqual(price(machine, word), expected)
                told.add(expected)
        self.assertLessEqual({None, 0, 1, 2, 3, 4, 5, 6}, told)

    def test_ordinary(self):
        machine = pieces_machine(read_set("(a|(a.b))"))
        self.assertEqual([price(machine, word) for word in ("", "a", "ab", "aa", "aab", "abab", "b", "abb", "c")],
                         [0, 1, 1, 2, 2, 2, None, None, None])
        plain = set_machine(read_set("(a|(a.b))"))
        self.assertEqual([price(plain, word) for word in ("", "a", "ab", "aa", "aab", "b")],
                         [None, 0, 0, None, None, None])

    def test_the_empty_word_is_no_piece(self):
        # The empty word costs nothing, whether it is of the set or not, and is never counted.
        for text in ("a", "(-|a)", "(a|-)", "(-.a)"):
            machine = pieces_machine(read_set(text))
            self.assertEqual([price(machine, "a" * many) for many in range(6)], [0, 1, 2, 3, 4, 5])
            self.assertIsNone(price(machine, "b"))
        self.assertEqual([price(pieces_machine(read_set("a*")), "a" * many) for many in range(4)], [0, 1, 1, 1])
        self.assertEqual(price(set_machine(read_set("a")), ""), None)
        self.assertEqual(price(set_machine(read_set("(-|a)")), ""), 0)

    def test_no_letter(self):
        for text in ("-", "-*", "(-|-)", "(-.-*)", "((-|-)*.(-.-))", "-***********"):
            for made in (set_machine, pieces_machine):
                machine = made(read_set(text))
                self.check_machine(machine)
                self.assertEqual([price(machine, word) for word in SHORT], [0] + [None] * (len(SHORT) - 1))

    def test_many_other_pieces(self):
        four = ("behind", ("either", ("letter", "a"), ("letter", "b")), ("repeat", ("either", ("letter", "a"), ("letter", "c"))))
        words = ("behind", joined("either", 15, ("nothing",)), ("repeat", ("repeat", four)))
        self.assertEqual(letters_in(words), 4)
        self.assertGreater(len(pieces_of(words)), 36)
        for word in SHORT + ["acab", "bacc", "cacc", "abab"]:
            self.assertEqual(price(pieces_machine(words), word), fewest_pieces(words, word))
            self.assertEqual(price(set_machine(words), word), 0 if len(word) in spans(words, word)[0] else None)

    def test_words_of_two_hundred_letters(self):
        for text, word, pieces, inside in (("(a|(a.a))", "a" * 200, 100, None), ("(a|(a.b))", "ab" * 100, 100, None),
                                           ("(a|(a.b))", "ab" * 99 + "bb", None, None), ("(a*.b*)", "ab" * 100, 100, None),
                                           ("(a.(b*.c))*", "abbc" * 50, 1, 0), ("(a|((a.a).a))", "a" * 200, 68, None)):
            self.assertEqual(price(pieces_machine(read_set(text)), word), pieces)
            self.assertEqual(price(set_machine(read_set(text)), word), inside)

    def test_too_many_letters(self):
        for made in (set_machine, pieces_machine):
            for kind in ("either", "behind"):
                for letter in "abc":
                    made(joined(kind, 4, ("letter", letter)))
                    for many in (5, 6, 20):
                        with self.assertRaises(TollError) as caught:
                            made(joined(kind, many, ("letter", letter)))
                        self.assertIs(type(caught.exception), TooMuch)
            for text in ("((a|b)|(c|(a|b)))", "((a.b)*.(a.(b.a*)))", "(((a|a)|(a|a))*|a)", "(-.((a|b)|(c.(a.b))))"):
                with self.assertRaises(TollError) as caught:
                    made(read_set(text))
                self.assertIs(type(caught.exception), TooMuch)


class CutUp(unittest.TestCase):
    def check(self, words, word):
        expected = fewest_pieces(words, word)
        told = cut_up(words, word)
        if expected is None:
            self.assertIsNone(told, (words, word))
            return None
        self.assertIs(type(told), list)
        self.assertEqual((len(told), "".join(told)), (expected, word), words)
        for piece in told:
            self.assertIs(type(piece), str)
            self.assertNotEqual(piece, "")
            self.assertIn(len(piece), spans(words, piece)[0])
        return expected

    def test_ordinary(self):
        self.assertEqual(cut_up(read_set("(a|(a.b))"), "aabab"), ["a", "ab", "ab"])
        self.assertIsNone(cut_up(read_set("(a|(a.b))"), "abb"))
        self.assertIsNone(cut_up(read_set("(a|(a.b))"), "ca"))
        self.assertEqual(cut_up(read_set("(a|(a.a))"), "aaaa"), ["aa", "aa"])

    def test_the_greatest_piece_first_may_be_no_way(self):
        # Of aaaab the longest piece at the beginning leaves a rest that is none, or needs more.
        words = read_set("(((a.a).a)|((a.a)|(a.b)))")
        self.assertEqual(cut_up(words, "aaab"), ["aa", "ab"])
        self.assertEqual(cut_up(words, "aaaab"), ["aaa", "ab"])
        many = read_set("((a|b)|((a.a)|(a.(b.(b.(b.b))))))")
        self.assertEqual(cut_up(many, "aabbbb"), ["a", "abbbb"])

    def test_short_words(self):
        told = set()
        for words in few_letters():
            for word in SHORT:
                told.add(self.check(words, word))
        self.assertEqual(told, {None, 0, 1, 2, 3})

    def test_forty_pieces_and_forty_letters(self):
        chance = random.Random(284)
        told = set()
        for at in range(60):
            words = made_set(chance, 40, 12)
            for word in longer_words(chance, words, 3) + [made_word(chance, letters, 40) for letters in (1, 2, 3)]:
                told.add(self.check(words, word[:40]))
        self.assertIn(None, told)
        self.assertGreater(len(told), 5)

    def test_ways_far_too_many_to_be_gone_through(self):
        words = read_set("(((a|(a.a))|((a.a).a))|((a.a).(a.a)))")
        self.assertEqual(len(cut_up(words, "a" * 40)), 10)
        self.assertEqual(len(cut_up(words, "a" * 39)), 10)
        self.assertIsNone(cut_up(words, "a" * 39 + "b"))
        self.assertIsNone(cut_up(words, "b" + "a" * 39))
        self.assertIsNone(cut_up(words, "a" * 20 + "c" + "a" * 19))
        self.assertEqual(cut_up(read_set("a"), "a" * 40), ["a"] * 40)
        self.assertEqual(cut_up(read_set("a****"), "a" * 40), ["a" * 40])

    def test_sets_of_many_letters_are_not_refused(self):
        words = joined("behind", 20, ("letter", "b"))
        self.assertEqual(cut_up(words, "b" * 40), ["b" * 20, "b" * 20])
        self.assertIsNone(cut_up(words, "b" * 39))
        self.assertEqual(len(cut_up(joined("either", 20, ("letter", "b")), "b" * 40)), 40)

    def test_the_empty_word(self):
        for text in TEXTS:
            self.assertEqual(cut_up(read_set(text), ""), [])

    def test_the_set_of_the_empty_word_alone(self):
        for text in ("-", "-*", "(-|-)", "(-.-)*"):
            self.assertEqual(cut_up(read_set(text), ""), [])
            self.assertIsNone(cut_up(read_set(text), "a"))

    def test_as_many_as_the_price(self):
        chance = random.Random(285)
        for words in sets_of_letters(286, 4, 80):
            machine = pieces_machine(words)
            for word in longer_words(chance, words, 3):
                told = cut_up(words, word)
                self.assertEqual(price(machine, word), None if told is None else len(told))

    def test_a_new_list_each_time(self):
        words = read_set("(a|(a.b))")
        for word in ("", "ab", "aabab"):
            told = cut_up(words, word)
            held = list(told)
            told.append("b")
            told.insert(0, "")
            self.assertEqual(cut_up(words, word), held)
            self.assertIsNot(cut_up(words, word), cut_up(words, word))


if __name__ == "__main__":
    unittest.main()
