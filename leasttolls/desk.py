"""The desk: keeps machines by names, is told texts and answers with texts."""

from leasttolls.errors import NoName, NoRow, NoText
from leasttolls.judge import judge
from leasttolls.machines import is_word
from leasttolls.machinetexts import machine_text, read_machine, row_text
from leasttolls.pieces import pieces_machine, set_machine
from leasttolls.roads import road
from leasttolls.settexts import read_set
from leasttolls.several import behind, lesser, summed, turned
from leasttolls.tables import price

# What is due in a row behind its first word.
ROWS = {
    "machine": ("NEW",),
    "words": ("NEW",),
    "pieces": ("NEW",),
    "sum": ("NEW", "NAME", "NAME"),
    "lesser": ("NEW", "NAME", "NAME"),
    "behind": ("NEW", "NAME", "NAME"),
    "turn": ("NEW", "NAME"),
    "show": ("NAME",),
    "price": ("NAME", "WORD"),
    "road": ("NAME", "WORD"),
    "judge": ("NAME",),
}
WITH_TEXT_BEHIND = ("machine", "words", "pieces")
NAME_LETTERS = "abcdefghijklmnopqrstuvwxyz"
MOST_NAME_LETTERS = 8


def check_row(said, has_line_end):
    if said[0] not in ROWS or len(said) - 1 != len(ROWS[said[0]]) or "" in said:
        raise NoRow("the first row is none that the desk knows")
    for due, word in zip(ROWS[said[0]], said[1:]):
        if due != "WORD" and not is_name(word):
            raise NoRow("a name is not one to eight letters a to z")
    if has_line_end != (said[0] in WITH_TEXT_BEHIND):
        raise NoRow("a line end stands where none is due, or none where one is")


def is_name(word):
    return 1 <= len(word) <= MOST_NAME_LETTERS and all([letter in NAME_LETTERS for letter in word])


def machine_behind(kind, text):
    if kind == "machine":
        return read_machine(text)
    words = read_set(text)
    return set_machine(words) if kind == "words" else pieces_machine(words)


def machine_of_others(kind, machines):
    if kind == "turn":
        return turned(machines[0])
    if kind == "sum":
        return summed(machines[0], machines[1])
    if kind == "lesser":
        return lesser(machines[0], machines[1])
    return behind(machines[0], machines[1])


def read_word(machine, written):
    if written == "-":
        return ""
    if not is_word(machine, written):
        raise NoText("the word is none of the machine's")
    return written


def word_text(word):
    return "-" if word == "" else word


def price_text(machine, word):
    found = price(machine, word)
    return "none" if found is None else str(found)


def road_text(machine, word):
    found = road(machine, word)
    return "none" if found is None else row_text(found)


def judge_text(machine):
    told = judge(machine)
    if told[0] == "none":
        return "\n".join(["none"] + [row_text(step) for step in told[1]])
    if told[2] is None:
        return row_text(["purse", told[1]])
    return row_text(["purse", told[1], word_text(told[2])])


class Desk:
    def __init__(self):
        self.standing = {}

    def say(self, text):
        parts = text.partition("\n")
        said = parts[0].split(" ")
        check_row(said, parts[1] != "")
        machines = self.machines_named(said)
        if ROWS[said[0]][0] == "NEW":
            self.standing[said[1]] = self.made(said[0], machines, parts[2])
            return "ok"
        return self.told(said, machines[0])

    def machines_named(self, said):
        names = [word for due, word in zip(ROWS[said[0]], said[1:]) if due == "NAME"]
        if not all([name in self.standing for name in names]):
            raise NoName("no machine stands by a name")
        return [self.standing[name] for name in names]

    def made(self, kind, machines, text):
        if kind in WITH_TEXT_BEHIND:
            return machine_behind(kind, text)
        return machine_of_others(kind, machines)

    def told(self, said, machine):
        if said[0] == "show":
            return machine_text(machine)
        if said[0] == "judge":
            return judge_text(machine)
        word = read_word(machine, said[2])
        return price_text(machine, word) if said[0] == "price" else road_text(machine, word)
