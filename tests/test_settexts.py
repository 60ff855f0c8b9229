import itertools
import random
import unittest

from leasttolls.errors import NoText, TollError
from leasttolls.sets import is_set
from leasttolls.settexts import read_set, set_text
from samples import joined, made_set, nested, pieces_of

A = ("letter", "a")
B = ("letter", "b")
C = ("letter", "c")
NOTHING = ("nothing",)

WRITTEN = [
    (A, "a"),
    (B, "b"),
    (C, "c"),
    (NOTHING, "-"),
    (("either", A, B), "(a|b)"),
    (("behind", A, B), "(a.b)"),
    (("repeat", A), "a*"),
    (("repeat", NOTHING), "-*"),
    (("repeat", ("repeat", C)), "c**"),
    (("repeat", ("either", A, NOTHING)), "(a|-)*"),
    (("either", A, ("repeat", B)), "(a|b*)"),
    (("behind", ("repeat", A), B), "(a*.b)"),
    (("behind", ("either", A, B), ("behind", C, NOTHING)), "((a|b).(c.-))"),
    (("repeat", ("behind", ("repeat", ("either", A, B)), ("repeat", ("repeat", NOTHING)))), "((a|b)*.-**)*"),
]


def written_within(long):
    """All texts of at most so many signs that are written as a set is, over the letters a and b, with their sets."""
    found = {1: [("a", A), ("b", B), ("-", NOTHING)]}
    for size in range(2, long + 1):
        found[size] = [(text + "*", ("repeat", words)) for text, words in found[size - 1]]
        for left in range(1, size - 3):
            for (one, first), (other, last) in itertools.product(found[left], found.get(size - 3 - left, [])):
                found[size].append((f"({one}|{other})", ("either", first, last)))
                found[size].append((f"({one}.{other})", ("behind", first, last)))
    return dict(pair for pairs in found.values() for pair in pairs)


class Texts(unittest.TestCase):
    def refused(self, text):
        with self.assertRaises(TollError) as caught:
            read_set(text)
        self.assertIs(type(caught.exception), NoText, text)

    def same(self, words, text):
        self.assertEqual(set_text(words), text)
        read = read_set(text)
        self.assertEqual(read, words)
        self.assertIs(is_set(read), True)
        self.assertTrue(all(type(piece) is tuple for piece in pieces_of(read)))
        self.assertEqual(set_text(read), text)

    def test_each_kind(self):
        for words, text in WRITTEN:
            self.same(words, text)

    def test_made_ones(self):
        chance = random.Random(271)
        for at in range(400):
            words = made_set(chance, chance.randint(1, 40), chance.randint(1, 12))
            self.same(words, set_text(words))

    def test_twelve_deep(self):
        for wrap, ahead, behind in ((lambda words: ("repeat", words), "", "*"),
                                    (lambda words: ("either", words, B), "(", "|b)"),
                                    (lambda words: ("either", NOTHING, words), "(-|", ")"),
                                    (lambda words: ("behind", words, C), "(", ".c)"),
                                    (lambda words: ("behind", A, words), "(a.", ")")):
            words = A
            text = "a"
            for at in range(11):
                words = wrap(words)
                text = ahead + text + behind
            self.assertEqual(nested(words), 12)
            self.same(words, text)
            self.refused(ahead + text + behind)
            self.refused(ahead * 2 + text + behind * 2)

    def test_forty_pieces(self):
        for kind in ("either", "behind"):
            for leaf in (A, NOTHING):
                words = ("repeat", joined(kind, 20, leaf))
                text = set_text(words)
                self.same(words, text)
                self.refused(text + "*")
                self.refused(set_text(joined(kind, 21, leaf)))
                self.refused(f"({text}|a)")
                self.refused(f"(a.{text})")

    def test_all_short_texts(self):
        expected = written_within(5)
        seen = 0
        for long in range(6):
            for signs in itertools.product("ab-(|.)*\n ", repeat=long):
                text = "".join(signs)
                try:
                    self.assertEqual(read_set(text), expected[text])
                    seen += 1
                except NoText:
                    self.assertNotIn(text, expected)
        self.assertEqual(seen, len(expected))
        self.assertGreater(seen, 30)

    def test_longer_texts_with_a_sign_changed(self):
        # Nine signs are long enough for brackets within brackets; what isn't among all such texts is none.
        expected = written_within(9)
        chance = random.Random(272)
        texts = [text for text in expected if len(text) > 6]
        told = set()
        for at in range(4000):
            text = chance.choice(texts)
            place = chance.randrange(len(text))
            changed = text[:place] + chance.choice(("", *"ab-(|.)*")) + text[place + chance.randint(0, 1):]
            if len(changed) > 9:
                continue
            if changed in expected:
                self.assertEqual(read_set(changed), expected[changed])
            else:
                self.refused(changed)
            told.add(changed in expected)
        self.assertEqual(told, {True, False})

    def test_blanks_and_line_ends(self):
        for text in ("", " ", "\n", "\n\n", "  "):
            self.refused(text)
        for good in ("a", "-", "(a|b)", "(a.b)", "a*", "((a|b)*.c)"):
            for at in range(len(good) + 1):
                self.refused(good[:at] + " " + good[at:])
                self.refused(good[:at] + "\n" + good[at:])

    def test_brackets(self):
        for text in ("(", ")", "()", "(a)", "((a|b))", "(a|b", "a|b)", "a|b", "a.b", "(a|b))", "((a|b)", ")(", "(a|b)(",
                     "(a|(b)", "((a)|b)", "()|a", "(()|a)", "(a|())", "(a.())*", "[a|b]", "{a|b}", "(a|b]", "(*)", "(a|b)*)",
                     "((a|b)|c", "(a|b)|c)", "()*"):
            self.refused(text)

    def test_signs_left_out_or_put_twice(self):
        for text in ("(ab)", "(a||b)", "(a..b)", "(a|.b)", "(a|b|c)", "(a.b.c)", "(a|b.c)", "(|b)", "(a|)", "(|)", "(.)",
                     "(.b)", "(a.)", "|", ".", "a|", "|a", "--", "-a", "a-", "(a--)", "(-|--)", "ab", "aa", "(a b)",
                     "(a|b)c", "c(a|b)", "(aa|b)", "(a|bb)", "(a|b)-", "((a|b)c)"):
            self.refused(text)

    def test_a_repeat_with_nothing_ahead(self):
        for text in ("*", "**", "*a", "(*|a)", "(a|*)", "(a*|*b)", "(a|b*.c)", "(*a|b)", "(a*b)", "a*b", "a*b*", "(a|*b)"):
            self.refused(text)

    def test_other_letters(self):
        for text in ("d", "A", "z", "0", "1", "(a|d)", "(a.B)", "d*", "_", "+", "a+", "a?", "(a,b)", "(a|b)^", "~", "\\",
                     "(a|1)", "letter a", "nothing"):
            self.refused(text)

    def test_two_sets_one_behind_the_other(self):
        for one, other in itertools.product([text for words, text in WRITTEN], repeat=2):
            self.refused(one + other)
            self.refused(one + " " + other)
            self.refused(one + "\n" + other)
            self.refused(one + "|" + other)
            self.refused(one + "." + other)

    def test_two_hundred_signs(self):
        for text in ("(" * 200, ")" * 200, "()" * 100, "(" * 100 + ")" * 100, ")" * 100 + "(" * 100, "(" * 199 + "a",
                     "a" + ")" * 199, "*" * 200, "a" + "*" * 199, "-" * 200, "|" * 200, "(a|" * 66 + "ab", "(a." * 66 + "a)",
                     "(" * 50 + "a" + "|b)" * 49, "(" * 50 + "a" + "|b)" * 49 + "*" + " ", "a" * 200):
            self.assertLessEqual(len(text), 201)
            self.refused(text)
        self.refused("(" * 49 + "a" + "|b)" * 49)
        self.refused("(" * 39 + "a" + ".-)" * 39)

    def test_read_again(self):
        one = read_set("((a|b)*.c)")
        other = read_set("((a|b)*.c)")
        self.assertEqual(one, other)
        self.assertEqual(one, ("behind", ("repeat", ("either", A, B)), C))


if __name__ == "__main__":
    unittest.main()
