"""Machines written as texts, and read again."""

from leasttolls.errors import NoText
from leasttolls.machines import begins_of, doors_of, ends_of, is_machine, letters_of, rooms_of

FIGURES = ("0", "1", "2", "3", "4", "5", "6", "7", "8", "9")
HEADS = ("letters", "rooms", "begin", "end")


def row_text(things):
    return " ".join([str(thing) for thing in things])


def machine_text(machine):
    rows = [
        ("letters", len(letters_of(machine))),
        ("rooms", rooms_of(machine)),
        ("begin",) + begins_of(machine),
        ("end",) + ends_of(machine),
    ]
    rows.extend([("door",) + door for door in doors_of(machine)])
    return "\n".join([row_text(row) for row in rows])


def read_machine(text):
    rows = [row.split(" ") for row in text.split("\n")]
    heads = rows[:len(HEADS)]
    if [row[0] for row in heads] != list(HEADS):
        raise NoText("the first rows are not those of a machine")
    letters = read_number(heads[0])
    rooms = read_number(heads[1])
    doors = tuple([read_door(row) for row in rows[len(HEADS):]])
    machine = (letters, rooms, read_numbers(heads[2]), read_numbers(heads[3]), doors)
    if not is_machine(machine):
        raise NoText("the text tells no machine")
    return machine


def read_figure(word):
    if word not in FIGURES:
        raise NoText("a number is not a single figure")
    return int(word)


def read_numbers(row):
    return tuple([read_figure(word) for word in row[1:]])


def read_number(row):
    if len(row) != 2:
        raise NoText("a row has not just one number")
    return read_figure(row[1])


def read_door(row):
    if len(row) != 5 or row[0] != "door":
        raise NoText("a row tells no door")
    return (read_figure(row[1]), row[2], read_figure(row[3]), read_figure(row[4]))
