"""Sets of words written as texts, and read again."""

from leasttolls.errors import NoText
from leasttolls.machines import LETTERS
from leasttolls.sets import is_set

JOINTS = {"|": "either", ".": "behind"}


def set_text(words):
    if words[0] == "letter":
        return words[1]
    if words[0] == "nothing":
        return "-"
    one = set_text(words[1])
    if words[0] == "repeat":
        return one + "*"
    other = set_text(words[2])
    joint = "|" if words[0] == "either" else "."
    return f"({one}{joint}{other})"


def read_set(text):
    # Read from left to right with what is not yet joined laid on a pile, as brackets may be nested to any depth.
    pile = []
    for sign in text:
        lay_sign(pile, sign)
    if len(pile) != 1 or not is_set(pile[0]):
        raise NoText("the text tells no set")
    return pile[0]


def lay_sign(pile, sign):
    if sign == "*" and ends_with_set(pile):
        pile.append(("repeat", pile.pop()))
    elif sign == ")" and ends_with_set(pile) and ahead_of_last(pile) in JOINTS:
        join_last(pile)
    elif sign in JOINTS and ends_with_set(pile) and ahead_of_last(pile) == "(":
        pile.append(sign)
    elif sign == "(" and not ends_with_set(pile):
        pile.append(sign)
    elif sign == "-" and not ends_with_set(pile):
        pile.append(("nothing",))
    elif sign in LETTERS and not ends_with_set(pile):
        pile.append(("letter", sign))
    else:
        raise NoText("a sign stands where it may not")


def ends_with_set(pile):
    return pile != [] and isinstance(pile[-1], tuple)


def ahead_of_last(pile):
    return pile[-2] if len(pile) > 1 else None


def join_last(pile):
    # A joint is laid behind a bracket and a set alone, so the last four are bracket, set, joint, set.
    other = pile.pop()
    joint = pile.pop()
    one = pile.pop()
    pile.pop()
    pile.append((JOINTS[joint], one, other))
