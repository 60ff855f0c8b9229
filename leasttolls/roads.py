"""Walks and roads of a machine, and their tolls."""

from leasttolls.machines import begins_of, doors_of, ends_of, is_room, rooms_of


def is_walk(machine, word, start, goal, places):
    if not is_room(start, rooms_of(machine)) or len(places) != len(word):
        return False
    doors = doors_of(machine)
    room = start
    for letter, place in zip(word, places):
        # A place below 0 would else be counted from the last door.
        if place < 0 or place >= len(doors):
            return False
        door = doors[place]
        if door[0] != room or door[1] != letter:
            return False
        room = door[2]
    return room == goal


def is_road(machine, word, places):
    for start in begins_of(machine):
        for goal in ends_of(machine):
            if is_walk(machine, word, start, goal, places):
                return True
    return False


def toll(machine, places):
    doors = doors_of(machine)
    return sum([doors[place][3] for place in places])


def road(machine, word):
    # One cheapest walk to each room is enough to go on from: all the others may be far too many.
    best = {}
    for room in begins_of(machine):
        best[room] = (0, [])
    for letter in word:
        best = best_led_on(machine, best, letter)
    found = [best[room] for room in ends_of(machine) if room in best]
    if found == []:
        return None
    return min(found, key=lambda walk: walk[0])[1]


def best_led_on(machine, best, letter):
    led_on = {}
    for place, door in enumerate(doors_of(machine)):
        start = door[0]
        goal = door[2]
        if door[1] != letter or start not in best:
            continue
        cost = best[start][0] + door[3]
        if goal not in led_on or cost < led_on[goal][0]:
            led_on[goal] = (cost, best[start][1] + [place])
    return led_on


def tolls(machine, word):
    # Walks to one room with one toll go on alike, so the tolls alone are kept.
    paid = {}
    for room in begins_of(machine):
        paid[room] = {0: True}
    for letter in word:
        paid = paid_led_on(machine, paid, letter)
    found = {}
    for room in ends_of(machine):
        found.update(paid.get(room, {}))
    return sorted(found)


def paid_led_on(machine, paid, letter):
    led_on = {}
    for start, sign, goal, fee in doors_of(machine):
        if sign == letter and start in paid:
            there = led_on.setdefault(goal, {})
            for cost in paid[start]:
                there[cost + fee] = True
    return led_on
