import copy
import random
import unittest

from leasttolls.sets import holds, is_set
from samples import ODD_THINGS, joined, made_set, nested, pieces_of, spans, words_up_to, words_within

A = ("letter", "a")
B = ("letter", "b")
C = ("letter", "c")
NOTHING = ("nothing",)
THREE_LETTERS = (3, 1, (), (), ())


def chain(kind, deep, leaf, side=1):
    """Nested just so deep by one kind, with the nested part on the told side."""
    words = leaf
    for at in range(deep - 1):
        if kind == "repeat":
            words = (kind, words)
        else:
            words = (kind, words, A) if side == 1 else (kind, A, words)
    return words


def forty_pieces(seed, many):
    """Sets of just forty pieces, at most twelve deep."""
    chance = random.Random(seed)
    found = []
    while len(found) < many:
        words = made_set(chance, 40, 12)
        if len(pieces_of(words)) == 40:
            found.append(words)
    return found


class Sets(unittest.TestCase):
    def yes(self, thing):
        self.assertIs(is_set(thing), True, thing)

    def no(self, thing):
        self.assertIs(is_set(thing), False, thing)

    def test_each_kind(self):
        for words in (A, B, C, NOTHING, ("either", A, B), ("behind", A, NOTHING), ("repeat", C),
                      ("repeat", ("either", ("behind", A, B), ("repeat", NOTHING)))):
            self.yes(words)

    def test_made_ones(self):
        chance = random.Random(251)
        for at in range(300):
            self.yes(made_set(chance, chance.randint(1, 40), chance.randint(1, 12)))

    def test_other_things(self):
        for thing in ODD_THINGS + ["nothing", "a", "repeat", ["letter", "a"], ["nothing"], 0, 1, True, None, (), [], ""]:
            self.no(thing)

    def test_another_first_text_or_none(self):
        for first in ("", "Letter", "letters", "a", "both", "either", "repeat", "nothing", "behind", " letter", 0, True,
                      None, (), ("letter",), ["letter"], []):
            self.no((first, "a"))
        for first in ("", "Nothing", "letter", "either", "behind", "repeat", "-", 0, True, None, ("nothing",), []):
            self.no((first,))
        for first in ("", "Either", "letter", "nothing", "repeat", "pair", 0, None, ("either",), ["behind"], []):
            self.no((first, A, B))
        self.no((A, B))
        self.no((A,))
        self.no((A, A, A))

    def test_too_few_or_too_many_things(self):
        for kind in ("letter", "either", "behind", "repeat"):
            self.no((kind,))
        for thing in (("nothing", A), ("nothing", "a"), ("nothing", ()), ("nothing", None), ("letter", "a", "b"),
                      ("letter", "a", A), ("letter", "a", None), ("either", A), ("behind", A), ("either", A, B, C),
                      ("behind", A, B, C), ("repeat", A, B), ("repeat", A, ()), ("nothing", "nothing")):
            self.no(thing)

    def test_letters(self):
        for letter in ("a", "b", "c"):
            self.yes(("letter", letter))
        for letter in ("", "ab", "abc", "aa", "d", "A", " ", "-", "a ", "\n", 0, 1, True, None, ("a",), ["a"], (), [], A):
            self.no(("letter", letter))
            self.no(("repeat", ("letter", letter)))

    def test_lists_in_a_tuples_place(self):
        for thing in (["letter", "a"], ["nothing"], ["either", A, B], ("either", list(A), B), ("either", A, list(B)),
                      ("behind", list(A), B), ("behind", A, list(B)), ("repeat", list(A)), ("repeat", ["nothing"]),
                      ("repeat", ("repeat", ["repeat", A]))):
            self.no(thing)

    def test_parts_that_are_none(self):
        for thing in ODD_THINGS + ["a", "nothing", (), "", 0, True, None]:
            for words in (("repeat", thing), ("either", thing, A), ("either", A, thing), ("behind", thing, A),
                          ("behind", A, thing), ("repeat", ("behind", A, ("either", B, thing)))):
                self.no(words)

    def test_forty_pieces_and_one_more(self):
        for leaf in (A, NOTHING):
            for kind in ("either", "behind"):
                # So many leaves have one piece less than twice as many.
                self.yes(joined(kind, 20, leaf))
                self.yes(("repeat", joined(kind, 20, leaf)))
                self.no(joined(kind, 21, leaf))
                self.no(("repeat", ("repeat", joined(kind, 20, leaf))))
                self.no(joined(kind, 100, leaf))
                # Leaves that are repeated count two each.
                self.yes((kind, joined(kind, 12, ("repeat", leaf)), joined(kind, 2, leaf)))
                self.yes(joined(kind, 13, ("repeat", leaf)))
                self.no(("repeat", ("repeat", ("repeat", joined(kind, 13, ("repeat", leaf))))))
        self.assertEqual(len(pieces_of(("repeat", joined("either", 20, A)))), 40)
        self.assertEqual(len(pieces_of(joined("either", 21, A))), 41)

    def test_pieces_count_as_often_as_they_stand(self):
        words = A
        for at in range(4):
            words = ("behind", words, words)
        self.yes(words)
        self.no(("behind", words, words))
        nine = joined("either", 5, A)
        self.yes(("either", ("either", nine, nine), ("either", nine, joined("behind", 4, A))))
        self.no(("either", ("either", nine, nine), ("either", nine, ("behind", nine, A))))

    def test_every_number_of_pieces(self):
        chance = random.Random(252)
        for pieces in range(30, 60):
            words = made_set(chance, pieces, 12)
            self.assertIs(is_set(words), len(pieces_of(words)) <= 40)

    def test_twelve_deep_and_thirteen(self):
        for leaf in (A, NOTHING):
            for kind in ("repeat", "either", "behind"):
                for side in (1, 2):
                    self.assertEqual(nested(chain(kind, 12, leaf, side)), 12)
                    self.yes(chain(kind, 11, leaf, side))
                    self.yes(chain(kind, 12, leaf, side))
                    self.no(chain(kind, 13, leaf, side))
                    self.no(chain(kind, 14, leaf, side))
        self.yes(("either", chain("repeat", 11, A), chain("behind", 11, B)))
        self.no(("either", chain("repeat", 12, A), B))
        self.no(("either", B, chain("repeat", 12, A)))
        self.no(("behind", chain("either", 12, A), B))

    def test_what_is_handed_in_stays(self):
        thing = ("either", ["letter", ["a"]], A)
        held = copy.deepcopy(thing)
        is_set(thing)
        self.assertEqual(thing, held)


class Holds(unittest.TestCase):
    def check(self, words, word):
        expected = len(word) in spans(words, word)[0]
        self.assertIs(holds(words, word), expected, (words, word))
        return expected

    def test_each_kind(self):
        table = [
            (A, ["a"], ["", "b", "aa", "c", "ab"]),
            (NOTHING, [""], ["a", "b", "aa"]),
            (("either", A, B), ["a", "b"], ["", "ab", "c", "ba"]),
            (("behind", A, B), ["ab"], ["", "a", "b", "ba", "abb"]),
            (("repeat", A), ["", "a", "aa", "aaa"], ["b", "ab", "aab", "ba"]),
            (("repeat", ("behind", A, B)), ["", "ab", "abab"], ["a", "aba", "ba", "abb"]),
            (("repeat", NOTHING), [""], ["a"]),
            (("repeat", ("repeat", A)), ["", "a", "aaaa"], ["b", "aab"]),
            (("behind", ("repeat", A), ("repeat", B)), ["", "a", "b", "aab", "abb"], ["ba", "aba"]),
            (("behind", NOTHING, A), ["a"], ["", "aa"]),
            (("behind", A, NOTHING), ["a"], ["", "aa"]),
            (("repeat", ("either", NOTHING, A)), ["", "a", "aaa"], ["b"]),
            (("behind", ("either", A, NOTHING), ("either", A, NOTHING)), ["", "a", "aa"], ["aaa", "b"]),
        ]
        for words, inside, outside in table:
            for word in inside:
                self.assertIs(holds(words, word), True, (words, word))
            for word in outside:
                self.assertIs(holds(words, word), False, (words, word))

    def test_against_words_one_by_one(self):
        chance = random.Random(261)
        short = list(words_up_to(THREE_LETTERS, 4))
        inside = 0
        for at in range(250):
            words = made_set(chance, chance.randint(1, 12), 8)
            expected = words_within(words, 4)
            self.assertEqual([word for word in short if holds(words, word)],
                             sorted(expected, key=lambda word: (len(word), word)), words)
            inside += len(expected)
        self.assertGreater(inside, 2000)

    def test_forty_pieces_and_forty_letters(self):
        chance = random.Random(262)
        told = {True: 0, False: 0}
        for words in forty_pieces(263, 40):
            for long in (0, 1, 7, 39, 40):
                for letters in ("a", "ab", "abc"):
                    told[self.check(words, "".join(chance.choice(letters) for at in range(long)))] += 1
        self.assertGreater(min(told.values()), 30)

    def test_ways_far_too_many_to_be_gone_through(self):
        # Each a may be parted in very many ways, and the last letter tells only at the end that none will do.
        many = ("repeat", ("repeat", ("repeat", ("either", A, ("behind", ("repeat", A), ("repeat", A))))))
        maybes = joined("behind", 13, ("repeat", A))
        within = A
        for at in range(5):
            within = ("repeat", ("behind", within, ("repeat", A)))
        for words in (many, maybes, within, ("behind", many, many)):
            self.assertIs(is_set(words), True)
            self.assertIs(holds(words, "a" * 40), True)
            self.assertIs(holds(words, "a" * 39 + "b"), False)
            self.assertIs(holds(("behind", words, B), "a" * 39 + "b"), True)
            self.assertIs(holds(("behind", words, B), "a" * 40), False)

    def test_repeats_within_repeats(self):
        words = ("repeat", ("behind", A, ("repeat", ("behind", B, ("repeat", C)))))
        for word, expected in (("", True), ("abcc" * 10, True), ("a" * 40, True), ("abccbcbbaabc", True),
                               ("ac", False), ("ba", False), ("abca" * 9 + "accb", False)):
            self.assertIs(holds(words, word), expected, word)
        self.assertIs(holds(chain("repeat", 12, A), "a" * 40), True)
        self.assertIs(holds(chain("repeat", 12, A), "a" * 39 + "c"), False)
        self.assertIs(holds(chain("repeat", 12, NOTHING), ""), True)
        self.assertIs(holds(chain("repeat", 12, NOTHING), "a"), False)

    def test_nothing_within_a_repeat(self):
        words = ("repeat", ("either", NOTHING, ("behind", ("repeat", NOTHING), ("behind", A, B))))
        for word, expected in (("", True), ("ab" * 20, True), ("aba", False), ("b", False)):
            self.assertIs(holds(words, word), expected, word)

    def test_lengths_that_count(self):
        # Twenty letters, no word of any other length.
        words = joined("behind", 20, ("letter", "c"))
        for long in range(41):
            self.assertIs(holds(words, "c" * long), long == 20)
        threes = ("repeat", ("behind", A, ("behind", A, A)))
        for long in range(41):
            self.assertIs(holds(threes, "a" * long), long % 3 == 0)

    def test_asked_again(self):
        words = forty_pieces(264, 1)[0]
        told = [holds(words, word) for word in ("", "a", "abc", "abc" * 13)]
        self.assertEqual([holds(words, word) for word in ("", "a", "abc", "abc" * 13)], told)


if __name__ == "__main__":
    unittest.main()
