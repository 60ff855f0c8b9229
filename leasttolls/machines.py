"""Machines and their words: what is one, and the parts of a machine."""

LETTERS = ("a", "b", "c")
MOST_ROOMS = 5
MOST_DOORS = 75
MOST_TOLL = 3
MOST_LETTERS = 200


def letters_of(machine):
    return LETTERS[:machine[0]]


def rooms_of(machine):
    return machine[1]


def begins_of(machine):
    return machine[2]


def ends_of(machine):
    return machine[3]


def doors_of(machine):
    return machine[4]


def is_whole(thing, low, high):
    # Python counts a truth as a number; the document doesn't.
    return isinstance(thing, int) and not isinstance(thing, bool) and low <= thing <= high


def is_tuple_of(thing, many):
    return isinstance(thing, tuple) and len(thing) == many


def is_room(thing, rooms):
    return is_whole(thing, 0, rooms - 1)


def is_letter(thing, letters):
    # A tuple of letters is asked, since a text also holds its parts of no sign or of two.
    return thing in LETTERS[:letters]


def are_rising_rooms(thing, rooms):
    if not isinstance(thing, tuple) or not all([is_room(room, rooms) for room in thing]):
        return False
    return all([low < high for low, high in zip(thing, thing[1:])])


def is_door(thing, letters, rooms):
    return (
        is_tuple_of(thing, 4)
        and is_room(thing[0], rooms)
        and is_letter(thing[1], letters)
        and is_room(thing[2], rooms)
        and is_whole(thing[3], 0, MOST_TOLL)
    )


def are_doors(thing, letters, rooms):
    if not isinstance(thing, tuple) or len(thing) > MOST_DOORS:
        return False
    return all([is_door(door, letters, rooms) for door in thing])


def is_machine(thing):
    return (
        is_tuple_of(thing, 5)
        and is_whole(thing[0], 1, len(LETTERS))
        and is_whole(thing[1], 1, MOST_ROOMS)
        and are_rising_rooms(thing[2], thing[1])
        and are_rising_rooms(thing[3], thing[1])
        and are_doors(thing[4], thing[0], thing[1])
    )


def is_word_up_to(machine, thing, most):
    if not isinstance(thing, str) or len(thing) > most:
        return False
    return all([letter in letters_of(machine) for letter in thing])


def is_word(machine, thing):
    return is_word_up_to(machine, thing, MOST_LETTERS)
