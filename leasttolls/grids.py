"""What tables of prices and tables of signs have in common."""

from leasttolls.machines import begins_of, ends_of


def grid(size, entry):
    rows = []
    for i in range(size):
        rows.append(tuple([entry(i, j) for j in range(size)]))
    return tuple(rows)


def raised(one, many, plain_one, times):
    # Squaring halves what is left, so a number of sixty figures takes some hundred products.
    answer = plain_one
    square = one
    left = many
    while left > 0:
        if left % 2 == 1:
            answer = times(answer, square)
        left = left // 2
        if left > 0:
            square = times(square, square)
    return answer


def at_begins_and_ends(machine, table):
    found = []
    for start in begins_of(machine):
        found.extend([table[start][goal] for goal in ends_of(machine)])
    return found
