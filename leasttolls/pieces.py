"""Machines of sets of words, and words cut up into pieces of a set."""

from leasttolls.errors import TooMuch
from leasttolls.machines import LETTERS
from leasttolls.sets import ends_from, rooms_for

MOST_SET_LETTERS = 4


def few_rooms_for(words):
    laid = rooms_for(words)
    if len(laid.letters) - 1 > MOST_SET_LETTERS:
        raise TooMuch("the set has more than four letters")
    return laid


def doors_into(laid, room, goals, fee):
    return [(room, laid.letters[goal], goal, fee) for goal in goals]


def with_doors(laid, ends, doors):
    return (len(LETTERS), len(laid.letters), (0,), tuple(ends), tuple(doors))


def set_machine(words):
    laid = few_rooms_for(words)
    doors = []
    for room, goals in enumerate(laid.follows):
        doors.extend(doors_into(laid, room, goals, 0))
    return with_doors(laid, laid.ends, doors)


def pieces_machine(words):
    # The first letter of each piece takes the toll; so the empty piece, which has none, is no piece.
    laid = few_rooms_for(words)
    ends = sorted(set([0] + laid.ends))
    firsts = laid.follows[0]
    doors = []
    for room, goals in enumerate(laid.follows):
        if room in ends:
            doors.extend(doors_into(laid, room, firsts, 1))
        if room != 0:
            doors.extend(doors_into(laid, room, goals, 0))
    return with_doors(laid, ends, doors)


def cut_up(words, word):
    # Each piece leads further on, so when a place is come to its fewest pieces are known.
    laid = rooms_for(words)
    fewest = {0: []}
    for at in range(len(word)):
        if at in fewest:
            take_pieces(fewest, word, at, ends_from(laid, word, at))
    return fewest.get(len(word))


def take_pieces(fewest, word, at, ends):
    for end in ends:
        if end > at and (end not in fewest or len(fewest[at]) + 1 < len(fewest[end])):
            fewest[end] = fewest[at] + [word[at:end]]
