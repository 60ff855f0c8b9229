"""Machines for the tests, and roads gone through one by one, without the program."""

import itertools
import random

PLAIN = (2, 3, (0,), (2,), (
    (0, "a", 0, 1),
    (0, "a", 1, 0),
    (1, "b", 1, 2),
    (1, "b", 2, 3),
    (0, "b", 2, 1),
    (2, "a", 2, 0),
    (0, "a", 1, 2),
))

# Every door there can be: a word of n letters has 5 ** (n + 1) walks and more.
CROWDED = (3, 5, (0, 1, 2, 3, 4), (0, 1, 2, 3, 4), tuple(
    (start, letter, goal, (start + 2 * goal + ord(letter)) % 4)
    for start in range(5) for letter in "abc" for goal in range(5)
))

NO_BEGIN = (1, 2, (), (0, 1), ((0, "a", 1, 1), (1, "a", 0, 1)))
NO_END = (1, 2, (0, 1), (), ((0, "a", 1, 1), (1, "a", 0, 1)))
NO_DOOR = (2, 3, (0, 1), (1, 2), ())
ONE_ROOM = (1, 1, (0,), (0,), ((0, "a", 0, 1),))

# Closed sets of just eighty sign tables, and of just one more.
EIGHTY = [
    (3, 4, (3,), (0, 1, 3), ((1, "c", 0, 3), (0, "a", 1, 3), (0, "c", 3, 3), (1, "c", 3, 0), (0, "c", 1, 2),
                             (2, "b", 3, 1), (2, "b", 0, 1), (3, "c", 1, 0), (3, "b", 3, 1))),
    (3, 4, (2,), (1, 2, 3), ((0, "a", 2, 0), (1, "c", 0, 1), (2, "a", 1, 0), (2, "b", 2, 0), (2, "a", 1, 1),
                             (0, "a", 2, 2), (1, "a", 0, 2), (1, "c", 3, 0), (1, "a", 1, 0), (2, "c", 3, 0))),
]
EIGHTY_ONE = [
    (2, 4, (2,), (1, 2, 3), ((2, "b", 3, 2), (0, "a", 1, 3), (2, "a", 3, 0), (3, "a", 0, 1), (2, "b", 0, 2),
                             (0, "b", 0, 1), (0, "a", 3, 0), (1, "b", 0, 3), (0, "a", 3, 0), (0, "b", 0, 0),
                             (0, "b", 2, 3))),
    (3, 4, (0, 3), (3,), ((0, "b", 2, 2), (2, "b", 1, 2), (2, "a", 0, 0), (2, "b", 1, 0), (1, "b", 1, 0),
                          (1, "c", 2, 2), (3, "c", 0, 3), (1, "a", 0, 2), (2, "a", 2, 3))),
]

# Things of every kind that may be asked about, none of them a machine, a word, a step or a paper.
ODD_THINGS = [
    None, True, False, -1, 0, 1, 10 ** 59, -10 ** 59, "z", "ab z", "letter", [], [[]], (), ((),), ("a",), [0],
    (None,), ((True,), [False]), [(0, "a", 0, 1)], ((((((((((((((1,),),),),),),),),),),),),),),
]

NAMED = [PLAIN, CROWDED, NO_BEGIN, NO_END, NO_DOOR, ONE_ROOM]


def made_machine(chance):
    letters = chance.randint(1, 3)
    rooms = chance.randint(1, 5)
    begins = tuple(room for room in range(rooms) if chance.random() < 0.5)
    ends = tuple(room for room in range(rooms) if chance.random() < 0.5)
    doors = tuple(
        (chance.randrange(rooms), chance.choice("abc"[:letters]), chance.randrange(rooms), chance.choice((0, 0, 1, 2, 3)))
        for at in range(chance.randint(0, 3 * rooms))
    )
    return (letters, rooms, begins, ends, doors)


def made_machines(seed, many):
    chance = random.Random(seed)
    return [made_machine(chance) for at in range(many)]


def words_up_to(machine, long):
    for length in range(long + 1):
        for letters in itertools.product("abc"[:machine[0]], repeat=length):
            yield "".join(letters)


def all_walks(machine, word):
    """Each walk by the word as (start, goal, places), one by one."""
    walks = [(room, room, []) for room in range(machine[1])]
    for letter in word:
        walks = [
            (start, door[2], places + [place])
            for start, goal, places in walks
            for place, door in enumerate(machine[4])
            if door[0] == goal and door[1] == letter
        ]
    return walks


def fees(machine, places):
    return sum(machine[4][place][3] for place in places)


def all_roads(machine, word):
    return [
        places for start, goal, places in all_walks(machine, word)
        if start in machine[2] and goal in machine[3]
    ]


def least_fee(machine, word, begins, ends):
    return min((
        fees(machine, places) for start, goal, places in all_walks(machine, word)
        if start in begins and goal in ends
    ), default=None)


def made_table(chance, size, prices):
    return tuple(tuple(chance.choice(prices) for j in range(size)) for i in range(size))


def letter_after_letter(machine, word, first, fold):
    """Each room's least number behind the word, from that of each room ahead of it, by doors alone."""
    numbers = list(first)
    for letter in word:
        behind = [None] * machine[1]
        for start, sign, goal, fee in machine[4]:
            if sign == letter and numbers[start] is not None:
                number = numbers[start] + fee
                if behind[goal] is None or number < behind[goal]:
                    behind[goal] = number
        numbers = [fold(number) for number in behind]
    return numbers


def least_numbers(machine, word):
    """The table of a word of any length, by doors alone."""
    rooms = range(machine[1])
    return tuple(
        tuple(letter_after_letter(machine, word, [0 if i == j else None for j in rooms], lambda number: number))
        for i in rooms
    )


def letter_signs(machine, letter):
    return tuple(
        tuple(3 if number is None else min(number, 1) for number in row) for row in least_numbers(machine, letter)
    )


def signs_multiplied(one, other):
    size = range(len(one))
    return tuple(tuple(min(max(one[i][k], other[k][j]) for k in size) for j in size) for i in size)


def signs_sharpened(signs):
    """What the document tells, or None where the sign table is not steady."""
    if signs_multiplied(signs, signs) != signs:
        return None
    size = range(len(signs))
    rounds = {0: 0, 1: 2, 2: 2, 3: 3}
    return tuple(
        tuple(min(max(signs[i][k], rounds[signs[k][k]], signs[k][j]) for k in size) for j in size) for i in size
    )


def made_sign_tables(seed, many):
    chance = random.Random(seed)
    return [made_table(chance, size, (0, 1, 2, 3, 3)) for size in range(1, 6) for at in range(many)]


def steady_sign_tables(seed, many):
    """Powers of other ones, as few take a steady one by chance."""
    found = []
    for signs in made_sign_tables(seed, many):
        power = signs
        while signs_multiplied(power, power) != power:
            power = signs_multiplied(power, signs)
        found.append(power)
    return found


def made_makings(chance, machine, many):
    """Makings that are as told, with the sign table of each step."""
    steps = []
    tables = []
    while len(steps) < many:
        kind = chance.choice(("letter", "pair", "pair", "sharp", "sharp")) if steps else "letter"
        one = chance.randrange(len(steps)) if steps else 0
        other = chance.randrange(len(steps)) if steps else 0
        if kind == "letter":
            step = (kind, chance.choice("abc"[:machine[0]]))
            signs = letter_signs(machine, step[1])
        elif kind == "pair":
            step = (kind, one, other)
            signs = signs_multiplied(tables[one], tables[other])
        else:
            step = (kind, one)
            signs = signs_sharpened(tables[one])
        if signs is not None:
            steps.append(step)
            tables.append(signs)
    return tuple(steps), tables


def go_together(signs, table, n, weight):
    """Whether signs and prices go together as the document tells of a step: all places at once."""
    for row, prices in zip(signs, table):
        for sign, price in zip(row, prices):
            fits = (
                (sign == 0) == (price == 0)
                and (sign == 3) == (price is None)
                and (sign != 2 or price > n)
                and (sign != 1 or 1 <= price <= weight)
            )
            if not fits:
                return False
    return True


def made_recipe(chance, letters, many, times):
    """A recipe of so many steps over the first letters, with numbers of times out of those handed in."""
    steps = []
    for at in range(many):
        kind = chance.choice(("letter", "pair", "times", "times")) if steps else "letter"
        if kind == "letter":
            steps.append((kind, chance.choice("abc"[:letters])))
        elif kind == "pair":
            steps.append((kind, chance.randrange(at), chance.randrange(at)))
        else:
            steps.append((kind, chance.randrange(at), chance.choice(times)))
    return tuple(steps)


def step_values(steps, of_letter, of_pair, of_again):
    """What each step of makings or of a recipe comes to; a sharp or times step is handed to of_again as it stands."""
    values = []
    for step in steps:
        if step[0] == "letter":
            values.append(of_letter(step[1]))
        elif step[0] == "pair":
            values.append(of_pair(values[step[1]], values[step[2]]))
        else:
            values.append(of_again(values[step[1]], step))
    return values


def recipe_lengths(recipe):
    return step_values(recipe, lambda letter: 1, lambda one, other: one + other, lambda one, step: one * step[2])


def recipe_words(recipe):
    """The word of each step, written out."""
    return step_values(recipe, lambda letter: letter, lambda one, other: one + other, lambda one, step: one * step[2])
