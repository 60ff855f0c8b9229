"""Sets of words: what is one, and which words it has."""

from leasttolls.machines import LETTERS, is_letter, is_tuple_of

MOST_PIECES = 40
MOST_DEEP = 12


def is_set(thing):
    return is_built(thing, MOST_DEEP) and pieces_in(thing) <= MOST_PIECES


def is_built(thing, deep):
    if is_tuple_of(thing, 1):
        return thing[0] == "nothing"
    if is_tuple_of(thing, 2) and thing[0] == "letter":
        return is_letter(thing[1], len(LETTERS))
    return deep > 1 and is_joined(thing) and all([is_built(part, deep - 1) for part in thing[1:]])


def is_joined(thing):
    if is_tuple_of(thing, 2):
        return thing[0] == "repeat"
    return is_tuple_of(thing, 3) and thing[0] in ("either", "behind")


def pieces_in(words):
    if words[0] in ("letter", "nothing"):
        return 1
    return 1 + sum([pieces_in(part) for part in words[1:]])


# A set as rooms: 0 is ahead of every word, and each letter, as often as it stands, has a room behind it.
class Rooms:
    def __init__(self):
        self.letters = [""]
        self.follows = [{}]
        self.ends = []

    def lay(self, words):
        # Told are whether the part has the empty word, the rooms its words may begin with, and those they may end in.
        if words[0] == "letter":
            return self.lay_letter(words[1])
        if words[0] == "nothing":
            return (True, [], [])
        one = self.lay(words[1])
        if words[0] == "repeat":
            self.link(one[2], one[1])
            return (True, one[1], one[2])
        other = self.lay(words[2])
        if words[0] == "either":
            return (one[0] or other[0], one[1] + other[1], one[2] + other[2])
        self.link(one[2], other[1])
        firsts = one[1] + other[1] if one[0] else one[1]
        lasts = one[2] + other[2] if other[0] else other[2]
        return (one[0] and other[0], firsts, lasts)

    def lay_letter(self, letter):
        room = len(self.letters)
        self.letters.append(letter)
        self.follows.append({})
        return (False, [room], [room])

    def link(self, rooms, goals):
        for room in rooms:
            for goal in goals:
                self.follows[room][goal] = True


def rooms_for(words):
    laid = Rooms()
    whole = laid.lay(words)
    laid.link([0], whole[1])
    laid.ends = sorted([0] + whole[2]) if whole[0] else sorted(whole[2])
    return laid


def led_by(laid, rooms, letter):
    found = {}
    for room in rooms:
        for goal in laid.follows[room]:
            if laid.letters[goal] == letter:
                found[goal] = True
    return list(found)


def ends_from(laid, word, start):
    # The rooms stand for all ways at once: these themselves may be far too many.
    found = []
    rooms = [0]
    for at in range(start, len(word) + 1):
        if any([room in laid.ends for room in rooms]):
            found.append(at)
        rooms = led_by(laid, rooms, word[at:at + 1])
    return found


def holds(words, word):
    return len(word) in ends_from(rooms_for(words), word, 0)
