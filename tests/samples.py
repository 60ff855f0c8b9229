"""Machines for the tests, and roads gone through one by one, without the program."""

import itertools
import random

PLAIN = (2, 3, (0,), (2,), (
    (0, "a", 0, 1),
    (0, "a", 1, 0),
    (1, "b", 1, 2),
    (1, "b", 2, 3),
    (0, "b", 2, 1),
    (2, "a", 2, 0),
    (0, "a", 1, 2),
))

# Every door there can be: a word of n letters has 5 ** (n + 1) walks and more.
CROWDED = (3, 5, (0, 1, 2, 3, 4), (0, 1, 2, 3, 4), tuple(
    (start, letter, goal, (start + 2 * goal + ord(letter)) % 4)
    for start in range(5) for letter in "abc" for goal in range(5)
))

NO_BEGIN = (1, 2, (), (0, 1), ((0, "a", 1, 1), (1, "a", 0, 1)))
NO_END = (1, 2, (0, 1), (), ((0, "a", 1, 1), (1, "a", 0, 1)))
NO_DOOR = (2, 3, (0, 1), (1, 2), ())
ONE_ROOM = (1, 1, (0,), (0,), ((0, "a", 0, 1),))

NAMED = [PLAIN, CROWDED, NO_BEGIN, NO_END, NO_DOOR, ONE_ROOM]


def made_machine(chance):
    letters = chance.randint(1, 3)
    rooms = chance.randint(1, 5)
    begins = tuple(room for room in range(rooms) if chance.random() < 0.5)
    ends = tuple(room for room in range(rooms) if chance.random() < 0.5)
    doors = tuple(
        (chance.randrange(rooms), chance.choice("abc"[:letters]), chance.randrange(rooms), chance.choice((0, 0, 1, 2, 3)))
        for at in range(chance.randint(0, 3 * rooms))
    )
    return (letters, rooms, begins, ends, doors)


def made_machines(seed, many):
    chance = random.Random(seed)
    return [made_machine(chance) for at in range(many)]


def words_up_to(machine, long):
    for length in range(long + 1):
        for letters in itertools.product("abc"[:machine[0]], repeat=length):
            yield "".join(letters)


def all_walks(machine, word):
    """Each walk by the word as (start, goal, places), one by one."""
    walks = [(room, room, []) for room in range(machine[1])]
    for letter in word:
        walks = [
            (start, door[2], places + [place])
            for start, goal, places in walks
            for place, door in enumerate(machine[4])
            if door[0] == goal and door[1] == letter
        ]
    return walks


def fees(machine, places):
    return sum(machine[4][place][3] for place in places)


def all_roads(machine, word):
    return [
        places for start, goal, places in all_walks(machine, word)
        if start in machine[2] and goal in machine[3]
    ]


def least_fee(machine, word, begins, ends):
    return min((
        fees(machine, places) for start, goal, places in all_walks(machine, word)
        if start in begins and goal in ends
    ), default=None)


def made_table(chance, size, prices):
    return tuple(tuple(chance.choice(prices) for j in range(size)) for i in range(size))


def letter_after_letter(machine, word, first, fold):
    """Each room's least number behind the word, from that of each room ahead of it, by doors alone."""
    numbers = list(first)
    for letter in word:
        behind = [None] * machine[1]
        for start, sign, goal, fee in machine[4]:
            if sign == letter and numbers[start] is not None:
                number = numbers[start] + fee
                if behind[goal] is None or number < behind[goal]:
                    behind[goal] = number
        numbers = [fold(number) for number in behind]
    return numbers
