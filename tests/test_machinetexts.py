import unittest

from leasttolls.errors import NoText, TollError
from leasttolls.machines import is_machine
from leasttolls.machinetexts import machine_text, read_machine
from samples import CROWDED, NAMED, NO_BEGIN, NO_DOOR, NO_END, made_machines

MACHINE = (2, 3, (0, 1), (2,), ((0, "a", 1, 0), (1, "b", 2, 3), (0, "a", 1, 0), (2, "a", 0, 1)))
TEXT = "letters 2\nrooms 3\nbegin 0 1\nend 2\ndoor 0 a 1 0\ndoor 1 b 2 3\ndoor 0 a 1 0\ndoor 2 a 0 1"
ROWS = TEXT.split("\n")


def with_row(at, row):
    return "\n".join(ROWS[:at] + [row] + ROWS[at + 1:])


class MachineTexts(unittest.TestCase):
    def refused(self, text):
        with self.assertRaises(TollError) as caught:
            read_machine(text)
        self.assertIs(type(caught.exception), NoText, text)

    def same(self, machine, text):
        self.assertEqual(machine_text(machine), text)
        read = read_machine(text)
        self.assertEqual(read, machine)
        self.assertIs(is_machine(read), True)
        self.assertEqual(machine_text(read), text)

    def test_ordinary(self):
        self.same(MACHINE, TEXT)

    def test_no_doors_no_begins_no_ends(self):
        self.same(NO_DOOR, "letters 2\nrooms 3\nbegin 0 1\nend 1 2")
        self.same(NO_BEGIN, "letters 1\nrooms 2\nbegin\nend 0 1\ndoor 0 a 1 1\ndoor 1 a 0 1")
        self.same(NO_END, "letters 1\nrooms 2\nbegin 0 1\nend\ndoor 0 a 1 1\ndoor 1 a 0 1")
        self.same((1, 1, (), (), ()), "letters 1\nrooms 1\nbegin\nend")

    def test_machines_written_and_read_again(self):
        for machine in NAMED + made_machines(291, 200):
            self.same(machine, machine_text(machine))

    def test_75_doors_and_one_more(self):
        text = machine_text(CROWDED)
        self.assertEqual(len(text.split("\n")), 79)
        self.same(CROWDED, text)
        self.refused(text + "\ndoor 0 a 0 0")
        alike = "letters 1\nrooms 1\nbegin 0\nend 0" + "\ndoor 0 a 0 3" * 75
        self.same((1, 1, (0,), (0,), ((0, "a", 0, 3),) * 75), alike)
        self.refused(alike + "\ndoor 0 a 0 3")
        self.refused(alike + "\ndoor 0 a 0 3" * 500)

    def test_rows_left_out(self):
        for at in range(4):
            self.refused("\n".join(ROWS[:at] + ROWS[at + 1:]))
            self.refused("\n".join(ROWS[:at]))
            self.refused("\n".join((ROWS[:4])[:at] + (ROWS[:4])[at + 1:]))
        for at in range(4, 8):
            without = "\n".join(ROWS[:at] + ROWS[at + 1:])
            self.assertEqual(machine_text(read_machine(without)), without)

    def test_rows_put_twice(self):
        for at in range(4):
            self.refused("\n".join(ROWS[:at + 1] + ROWS[at:]))
            self.refused(TEXT + "\n" + ROWS[at])
        self.refused(TEXT + "\n" + TEXT)

    def test_rows_in_another_order(self):
        for one in range(8):
            for other in range(one):
                rows = list(ROWS)
                rows[one], rows[other] = ROWS[other], ROWS[one]
                if one >= 4 and other >= 4:
                    self.assertEqual(machine_text(read_machine("\n".join(rows))), "\n".join(rows))
                else:
                    self.refused("\n".join(rows))
        self.refused("\n".join(reversed(ROWS)))

    def test_a_row_too_many(self):
        for row in ("", " ", "door", "x", "ok", "begin", "end 2", "letters 2", "doors 0 a 1 0", "# door 0 a 1 0"):
            for at in range(9):
                self.refused("\n".join(ROWS[:at] + [row] + ROWS[at:]))

    def test_line_ends(self):
        self.refused(TEXT + "\n")
        self.refused("\n" + TEXT)
        self.refused(TEXT + "\n\n")
        self.refused(TEXT.replace("\n", "\n\n"))
        self.refused(TEXT.replace("\n", " "))
        self.refused(TEXT.replace("\n", ""))
        for at in range(len(TEXT) + 1):
            self.refused(TEXT[:at] + "\n" + TEXT[at:])
        self.refused("letters 1\nrooms 1\nbegin\nend\n")

    def test_blanks(self):
        for at in range(len(TEXT) + 1):
            self.refused(TEXT[:at] + " " + TEXT[at:])
        for row in range(8):
            self.refused(with_row(row, ROWS[row] + " "))
            self.refused(with_row(row, " " + ROWS[row]))
            self.refused(with_row(row, ROWS[row].replace(" ", "  ", 1)))
            self.refused(with_row(row, ROWS[row].replace(" ", "", 1)))
            self.refused(with_row(row, ROWS[row].replace(" ", "")))
        for row in ("begin ", " begin", "begin  0"):
            self.refused(with_row(2, row))
        for row in ("end ", " end", "end  2"):
            self.refused(with_row(3, row))

    def test_numbers(self):
        for number in ("", "00", "01", "10", "1 ", "-1", "+1", "-0", "+2", "a", "1.", "1.0", "0x1", "two", "1_", "9", "6", "(1)",
                       "None", "True", "99999999999999999999"):
            for row in (f"letters {number}", f"rooms {number}"):
                self.refused(with_row(0 if row.startswith("letters") else 1, row))
            for at, word in ((2, "begin"), (3, "end")):
                self.refused(with_row(at, f"{word} {number}"))
                self.refused(with_row(at, f"{word} 0 {number}"))
            for row in (f"door {number} a 1 0", f"door 0 a {number} 0", f"door 0 a 1 {number}"):
                self.refused(with_row(4, row))

    def test_bounds(self):
        for letters in range(10):
            text = f"letters {letters}\nrooms 1\nbegin\nend"
            if 1 <= letters <= 3:
                self.same((letters, 1, (), (), ()), text)
            else:
                self.refused(text)
        for rooms in range(10):
            text = f"letters 1\nrooms {rooms}\nbegin\nend"
            if 1 <= rooms <= 5:
                self.same((1, rooms, (), (), ()), text)
            else:
                self.refused(text)
        for room in range(10):
            for text in (f"letters 1\nrooms 4\nbegin {room}\nend", f"letters 1\nrooms 4\nbegin\nend {room}",
                         f"letters 1\nrooms 4\nbegin\nend\ndoor {room} a 0 0",
                         f"letters 1\nrooms 4\nbegin\nend\ndoor 0 a {room} 0",
                         f"letters 1\nrooms 5\nbegin\nend\ndoor 0 a 0 {room}"):
                if room < 4:
                    self.assertEqual(machine_text(read_machine(text)), text)
                else:
                    self.refused(text)

    def test_rooms_rising(self):
        for rooms in ("1 0", "0 0", "0 2 1", "2 1 0", "1 1 2", "0 1 2 2", "0 1 2 0"):
            self.refused(with_row(2, "begin " + rooms))
            self.refused(with_row(3, "end " + rooms))
        self.assertEqual(read_machine(with_row(2, "begin 0 1 2"))[2], (0, 1, 2))

    def test_letters_of_doors(self):
        for letter in ("c", "d", "A", "ab", "", "-", "1", "aa", "*"):
            self.refused(with_row(4, f"door 0 {letter} 1 0"))
        for at, letter in enumerate("abc"):
            for letters in (1, 2, 3):
                text = f"letters {letters}\nrooms 1\nbegin\nend\ndoor 0 {letter} 0 0"
                if at < letters:
                    self.assertEqual(machine_text(read_machine(text)), text)
                else:
                    self.refused(text)

    def test_words_of_rows(self):
        for row in ("letter 2", "Letters 2", "letters", "letters 2 2", "2", "2 letters", "lettersx 2", "letters 2 0"):
            self.refused(with_row(0, row))
        for row in ("room 3", "Rooms 3", "rooms", "rooms 3 3", "rooms 3 a", "begin 3"):
            self.refused(with_row(1, row))
        for row in ("begins 0", "Begin 0", "end 0", "0", ""):
            self.refused(with_row(2, row))
        for row in ("ends 2", "END 2", "begin 2", "2", ""):
            self.refused(with_row(3, row))
        for row in ("doors 0 a 1 0", "Door 0 a 1 0", "door 0 a 1", "door 0 a 1 0 0", "door a 0 1 0", "door 0 1 a 0", "0 a 1 0",
                    "door", "door 0", "end 0 a 1 0"):
            self.refused(with_row(4, row))
            self.refused(with_row(7, row))

    def test_other_texts(self):
        for text in ("", " ", "\n", "\n\n\n", "\n" * 4, "a", "letters", "machine", "letters 2", "ok", "~", "(a|b)",
                     "letters 2\nrooms 3", "letters 2\nrooms 3\nbegin", " \n \n \n ", "\n" * 20000, "door " * 4000):
            self.refused(text)


if __name__ == "__main__":
    unittest.main()
