"""Machines for the tests, and roads gone through one by one, without the program."""

import itertools
import random

PLAIN = (2, 3, (0,), (2,), (
    (0, "a", 0, 1),
    (0, "a", 1, 0),
    (1, "b", 1, 2),
    (1, "b", 2, 3),
    (0, "b", 2, 1),
    (2, "a", 2, 0),
    (0, "a", 1, 2),
))

# Every door there can be: a word of n letters has 5 ** (n + 1) walks and more.
CROWDED = (3, 5, (0, 1, 2, 3, 4), (0, 1, 2, 3, 4), tuple(
    (start, letter, goal, (start + 2 * goal + ord(letter)) % 4)
    for start in range(5) for letter in "abc" for goal in range(5)
))

NO_BEGIN = (1, 2, (), (0, 1), ((0, "a", 1, 1), (1, "a", 0, 1)))
NO_END = (1, 2, (0, 1), (), ((0, "a", 1, 1), (1, "a", 0, 1)))
NO_DOOR = (2, 3, (0, 1), (1, 2), ())
ONE_ROOM = (1, 1, (0,), (0,), ((0, "a", 0, 1),))

# Closed sets of just eighty sign tables, and of just one more.
EIGHTY = [
    (3, 4, (3,), (0, 1, 3), ((1, "c", 0, 3), (0, "a", 1, 3), (0, "c", 3, 3), (1, "c", 3, 0), (0, "c", 1, 2),
                             (2, "b", 3, 1), (2, "b", 0, 1), (3, "c", 1, 0), (3, "b", 3, 1))),
    (3, 4, (2,), (1, 2, 3), ((0, "a", 2, 0), (1, "c", 0, 1), (2, "a", 1, 0), (2, "b", 2, 0), (2, "a", 1, 1),
                             (0, "a", 2, 2), (1, "a", 0, 2), (1, "c", 3, 0), (1, "a", 1, 0), (2, "c", 3, 0))),
]
EIGHTY_ONE = [
    (2, 4, (2,), (1, 2, 3), ((2, "b", 3, 2), (0, "a", 1, 3), (2, "a", 3, 0), (3, "a", 0, 1), (2, "b", 0, 2),
                             (0, "b", 0, 1), (0, "a", 3, 0), (1, "b", 0, 3), (0, "a", 3, 0), (0, "b", 0, 0),
                             (0, "b", 2, 3))),
    (3, 4, (0, 3), (3,), ((0, "b", 2, 2), (2, "b", 1, 2), (2, "a", 0, 0), (2, "b", 1, 0), (1, "b", 1, 0),
                          (1, "c", 2, 2), (3, "c", 0, 3), (1, "a", 0, 2), (2, "a", 2, 3))),
]

# Things of every kind that may be asked about, none of them a machine, a word, a step or a paper.
ODD_THINGS = [
    None, True, False, -1, 0, 1, 10 ** 59, -10 ** 59, "z", "ab z", "letter", [], [[]], (), ((),), ("a",), [0],
    (None,), ((True,), [False]), [(0, "a", 0, 1)], ((((((((((((((1,),),),),),),),),),),),),),),
]

NAMED = [PLAIN, CROWDED, NO_BEGIN, NO_END, NO_DOOR, ONE_ROOM]


def made_machine(chance):
    letters = chance.randint(1, 3)
    rooms = chance.randint(1, 5)
    begins = tuple(room for room in range(rooms) if chance.random() < 0.5)
    ends = tuple(room for room in range(rooms) if chance.random() < 0.5)
    doors = tuple(
        (chance.randrange(rooms), chance.choice("abc"[:letters]), chance.randrange(rooms), chance.choice((0, 0, 1, 2, 3)))
        for at in range(chance.randint(0, 3 * rooms))
    )
    return (letters, rooms, begins, ends, doors)


def made_machines(seed, many):
    chance = random.Random(seed)
    return [made_machine(chance) for at in range(many)]


def machine_with(chance, letters, rooms, most_toll, most_doors=12):
    """A machine of so many letters and rooms, with no toll above the one told; most let many words by."""
    return (
        letters,
        rooms,
        tuple(room for room in range(rooms) if chance.random() < 0.7),
        tuple(room for room in range(rooms) if chance.random() < 0.7),
        tuple(
            (chance.randrange(rooms), chance.choice("abc"[:letters]), chance.randrange(rooms),
             chance.randint(0, most_toll))
            for at in range(chance.choice((0, most_doors // 2, most_doors - 1, most_doors)))
        ),
    )


def made_word(chance, letters, long):
    return "".join(chance.choice("abc"[:letters]) for at in range(long))


def words_up_to(machine, long):
    for length in range(long + 1):
        for letters in itertools.product("abc"[:machine[0]], repeat=length):
            yield "".join(letters)


def all_walks(machine, word):
    """Each walk by the word as (start, goal, places), one by one."""
    walks = [(room, room, []) for room in range(machine[1])]
    for letter in word:
        walks = [
            (start, door[2], places + [place])
            for start, goal, places in walks
            for place, door in enumerate(machine[4])
            if door[0] == goal and door[1] == letter
        ]
    return walks


def fees(machine, places):
    return sum(machine[4][place][3] for place in places)


def all_roads(machine, word):
    return [
        places for start, goal, places in all_walks(machine, word)
        if start in machine[2] and goal in machine[3]
    ]


def least_fee(machine, word, begins, ends):
    return min((
        fees(machine, places) for start, goal, places in all_walks(machine, word)
        if start in begins and goal in ends
    ), default=None)


def made_table(chance, size, prices):
    return tuple(tuple(chance.choice(prices) for j in range(size)) for i in range(size))


def letter_after_letter(machine, word, first, fold):
    """Each room's least number behind the word, from that of each room ahead of it, by doors alone."""
    numbers = list(first)
    for letter in word:
        behind = [None] * machine[1]
        for start, sign, goal, fee in machine[4]:
            if sign == letter and numbers[start] is not None:
                number = numbers[start] + fee
                if behind[goal] is None or number < behind[goal]:
                    behind[goal] = number
        numbers = [fold(number) for number in behind]
    return numbers


def least_numbers(machine, word):
    """The table of a word of any length, by doors alone."""
    rooms = range(machine[1])
    return tuple(
        tuple(letter_after_letter(machine, word, [0 if i == j else None for j in rooms], lambda number: number))
        for i in rooms
    )


def least_number(machine, word):
    """The price of a word of any length, by doors alone."""
    first = [0 if room in machine[2] else None for room in range(machine[1])]
    told = letter_after_letter(machine, word, first, lambda number: number)
    return min((told[room] for room in machine[3] if told[room] is not None), default=None)


def letter_signs(machine, letter):
    return tuple(
        tuple(3 if number is None else min(number, 1) for number in row) for row in least_numbers(machine, letter)
    )


def signs_multiplied(one, other):
    size = range(len(one))
    return tuple(tuple(min(max(one[i][k], other[k][j]) for k in size) for j in size) for i in size)


def signs_sharpened(signs):
    """What the document tells, or None where the sign table is not steady."""
    if signs_multiplied(signs, signs) != signs:
        return None
    size = range(len(signs))
    rounds = {0: 0, 1: 2, 2: 2, 3: 3}
    return tuple(
        tuple(min(max(signs[i][k], rounds[signs[k][k]], signs[k][j]) for k in size) for j in size) for i in size
    )


def made_sign_tables(seed, many):
    chance = random.Random(seed)
    return [made_table(chance, size, (0, 1, 2, 3, 3)) for size in range(1, 6) for at in range(many)]


def steady_sign_tables(seed, many):
    """Powers of other ones, as few take a steady one by chance."""
    found = []
    for signs in made_sign_tables(seed, many):
        power = signs
        while signs_multiplied(power, power) != power:
            power = signs_multiplied(power, signs)
        found.append(power)
    return found


def made_makings(chance, machine, many):
    """Makings that are as told, with the sign table of each step."""
    steps = []
    tables = []
    while len(steps) < many:
        kind = chance.choice(("letter", "pair", "pair", "sharp", "sharp")) if steps else "letter"
        one = chance.randrange(len(steps)) if steps else 0
        other = chance.randrange(len(steps)) if steps else 0
        if kind == "letter":
            step = (kind, chance.choice("abc"[:machine[0]]))
            signs = letter_signs(machine, step[1])
        elif kind == "pair":
            step = (kind, one, other)
            signs = signs_multiplied(tables[one], tables[other])
        else:
            step = (kind, one)
            signs = signs_sharpened(tables[one])
        if signs is not None:
            steps.append(step)
            tables.append(signs)
    return tuple(steps), tables


def go_together(signs, table, n, weight):
    """Whether signs and prices go together as the document tells of a step: all places at once."""
    for row, prices in zip(signs, table):
        for sign, price in zip(row, prices):
            fits = (
                (sign == 0) == (price == 0)
                and (sign == 3) == (price is None)
                and (sign != 2 or price > n)
                and (sign != 1 or 1 <= price <= weight)
            )
            if not fits:
                return False
    return True


def made_recipe(chance, letters, many, times):
    """A recipe of so many steps over the first letters, with numbers of times out of those handed in."""
    steps = []
    for at in range(many):
        kind = chance.choice(("letter", "pair", "times", "times")) if steps else "letter"
        if kind == "letter":
            steps.append((kind, chance.choice("abc"[:letters])))
        elif kind == "pair":
            steps.append((kind, chance.randrange(at), chance.randrange(at)))
        else:
            steps.append((kind, chance.randrange(at), chance.choice(times)))
    return tuple(steps)


def step_values(steps, of_letter, of_pair, of_again):
    """What each step of makings or of a recipe comes to; a sharp or times step is handed to of_again as it stands."""
    values = []
    for step in steps:
        if step[0] == "letter":
            values.append(of_letter(step[1]))
        elif step[0] == "pair":
            values.append(of_pair(values[step[1]], values[step[2]]))
        else:
            values.append(of_again(values[step[1]], step))
    return values


def recipe_lengths(recipe):
    return step_values(recipe, lambda letter: 1, lambda one, other: one + other, lambda one, step: one * step[2])


def recipe_words(recipe):
    """The word of each step, written out."""
    return step_values(recipe, lambda letter: letter, lambda one, other: one + other, lambda one, step: one * step[2])


def made_set(chance, pieces, deep):
    """A set of so many pieces, or of fewer where it would be nested too deep."""
    if pieces == 1 or deep == 1:
        return chance.choice((("letter", "a"), ("letter", "b"), ("letter", "c"), ("letter", "a"), ("nothing",)))
    if pieces == 2 or chance.random() < 0.3:
        return ("repeat", made_set(chance, pieces - 1, deep - 1))
    left = chance.randint(1, pieces - 2)
    kind = chance.choice(("either", "behind"))
    return (kind, made_set(chance, left, deep - 1), made_set(chance, pieces - 1 - left, deep - 1))


def pieces_of(words):
    """The set itself and all that it is built of, each as often as it stands."""
    found = [words]
    if words[0] in ("either", "behind", "repeat"):
        for part in words[1:]:
            found.extend(pieces_of(part))
    return found


def letters_in(words):
    return len([piece for piece in pieces_of(words) if piece[0] == "letter"])


def nested(words):
    return 1 + max((nested(part) for part in words[1:] if isinstance(part, tuple)), default=0)


def joined(kind, many, leaf):
    """So many leaves joined by one kind, nested no deeper than needed."""
    if many == 1:
        return leaf
    return (kind, joined(kind, many // 2, leaf), joined(kind, many - many // 2, leaf))


def words_within(words, long):
    """All words of a set of at most so many letters, one by one."""
    if words[0] == "letter":
        return {words[1]} if long > 0 else set()
    if words[0] == "nothing":
        return {""}
    one = words_within(words[1], long)
    if words[0] == "either":
        return one | words_within(words[2], long)
    if words[0] == "behind":
        return {u + v for u in one for v in words_within(words[2], long) if len(u + v) <= long}
    found = {""}
    fresh = {""}
    while fresh:
        fresh = {u + v for u in fresh for v in one if len(u + v) <= long} - found
        found |= fresh
    return found


def spans(words, word):
    """For each place of a word the places up to which it is a word of the set from there, part by part."""
    places = range(len(word) + 1)
    if words[0] == "letter":
        return [{at + 1} if word[at:at + 1] == words[1] else set() for at in places]
    if words[0] == "nothing":
        return [{at} for at in places]
    one = spans(words[1], word)
    if words[0] == "either":
        return [here | there for here, there in zip(one, spans(words[2], word))]
    if words[0] == "behind":
        other = spans(words[2], word)
        return [set().union(*(other[at] for at in here)) for here in one]
    found = [set() for at in places]
    for at in reversed(places):
        found[at] = {at}.union(*(found[end] for end in one[at] if end > at))
    return found


def fewest_pieces(words, word):
    """How many pieces of the set a word needs, none of them empty; None where it can't be pieced together."""
    ahead = spans(words, word)
    fewest = {len(word): 0}
    for at in reversed(range(len(word))):
        counts = [fewest[end] + 1 for end in ahead[at] if end > at and end in fewest]
        if counts:
            fewest[at] = min(counts)
    return fewest.get(0)
