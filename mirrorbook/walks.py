"""Walks through readers that are known to be right.

The steps of a reader are one dict for each layer of doors: from a room and a letter to the room behind.
"""

from mirrorbook.letters import letter_tuples, row_product
from mirrorbook.rows import end_of, lead_of


def all_steps(doors):
    """The steps of a reader with these doors."""
    return [{(room, letter): behind for room, letter, behind in layer} for layer in doors]


def book_steps(q, n, rows):
    """The steps of a reader of all sums of span rows.

    A room is named by the amounts of the rows that have begun ahead of it and do not end ahead of it.
    """
    return [steps_at(q, rows, position) for position in range(n)]


def steps_at(q, rows, position):
    met = [row for row in rows if lead_of(row) <= position <= end_of(row)]
    letters = [row[position] for row in met]
    found = {}
    for amounts in letter_tuples(q, len(met)):
        ahead = tuple([amount for amount, row in zip(amounts, met) if lead_of(row) < position])
        behind = tuple([amount for amount, row in zip(amounts, met) if end_of(row) > position])
        found[(ahead, row_product(q, amounts, letters))] = behind
    return found


def room_behind(steps, layer, room, letters):
    """The room to which these letters lead from a room of a layer, None if they lead nowhere."""
    found = room
    for at, letter in enumerate(letters):
        found = steps[layer + at].get((found, letter))
    return found


def some_heads(steps):
    """For each layer the rooms to which walks lead from layer 0, each with one of its heads."""
    found = [{0: ()}]
    for step in steps:
        heads = {}
        for room, letter in step:
            if room in found[-1]:
                heads.setdefault(step[(room, letter)], found[-1][room] + (letter,))
        found.append(heads)
    return found


def rooms_with_tails(steps):
    """For each layer the list of the rooms from which walks lead to the last layer."""
    found = [[0]]
    for step in reversed(steps):
        found.append(sorted({door[0] for door in step if step[door] in found[-1]}))
    return list(reversed(found))


def live_layers(steps):
    """For each layer the ascending tuple of its live rooms."""
    heads = some_heads(steps)
    tailed = rooms_with_tails(steps)
    return tuple([tuple([room for room in tailed[at] if room in heads[at]]) for at in range(len(heads))])


def live_steps(steps):
    """The steps between live rooms alone."""
    live = live_layers(steps)
    found = []
    for at, step in enumerate(steps):
        found.append({door: step[door] for door in step if door[0] in live[at] and step[door] in live[at + 1]})
    return found


def some_tail(q, steps, layer, room):
    """A tail of a room of a layer; all steps lead to live rooms."""
    tail = ()
    found = room
    for step in steps[layer:]:
        fit = [letter for letter in range(q) if (found, letter) in step]
        tail = tail + (fit[0],)
        found = step[(found, fit[0])]
    return tail


def weight_counts(steps):
    """How many of the tuples that are accepted have 0, 1, .. letters other than 0."""
    none = [0] * (len(steps) + 1)
    counts = {0: [1] + [0] * len(steps)}
    for step in steps:
        longer = {}
        for room, letter in step:
            if room in counts:
                here = counts[room] if letter == 0 else [0] + counts[room][:-1]
                behind = step[(room, letter)]
                longer[behind] = [one + other for one, other in zip(longer.get(behind, none), here)]
        counts = longer
    return tuple(counts.get(0, none))


def tuples_of_walks(steps):
    """The ascending tuple of all tuples that are accepted; all steps lead from live rooms to live rooms."""
    tails = {0: [()]}
    for step in reversed(steps):
        longer = {}
        # The doors of a reader ascend, and so do the tails that they make.
        for room, letter in step:
            here = [(letter,) + tail for tail in tails[step[(room, letter)]]]
            longer[room] = longer.get(room, []) + here
        tails = longer
    return tuple(tails.get(0, []))


def first_alikes(q, steps):
    """For each layer its live rooms, each with the first of those that have the same tails; all steps are live."""
    found = [{0: 0}]
    for step in reversed(steps):
        alikes = {}
        firsts = {}
        for room in sorted({door[0] for door in step}):
            # Rooms have the same tails if the same letters lead to rooms with the same tails.
            form = [(letter, found[-1][step[(room, letter)]]) for letter in range(q) if (room, letter) in step]
            alikes[room] = firsts.setdefault(tuple(form), room)
        found.append(alikes)
    return list(reversed(found))


def merged_steps(q, steps):
    """The steps, each to the first of the rooms with the same tails, so that none leads to others; all are live."""
    firsts = first_alikes(q, steps)
    return [{door: firsts[at + 1][step[door]] for door in step} for at, step in enumerate(steps)]


def in_line(q, start, steps):
    """The reader with these steps, its rooms numbered in the order of their least heads from the room start on."""
    rooms = [1]
    doors = []
    numbers = {start: 0}
    for step in steps:
        layer = []
        behind = {}
        # Rooms that are met in the order of least heads and letters are met first by their own least heads.
        for room in list(numbers):
            for letter in range(q):
                if (room, letter) in step:
                    number = behind.setdefault(step[(room, letter)], len(behind))
                    layer.append((numbers[room], letter, number))
        rooms.append(len(behind))
        doors.append(tuple(layer))
        numbers = behind
    return (q, tuple(rooms), tuple(doors))


def first_difference(q, one, other):
    """A tuple that is accepted along just one of two kinds of live steps, None if there is none."""
    heads = {(0, 0): ()}
    for at in range(len(one)):
        longer = {}
        for (first, second), head in list(heads.items()):
            for letter in range(q):
                pair = (one[at].get((first, letter)), other[at].get((second, letter)))
                if None not in pair:
                    longer.setdefault(pair, head + (letter,))
                elif pair[0] is not None:
                    return head + (letter,) + some_tail(q, one, at + 1, pair[0])
                elif pair[1] is not None:
                    return head + (letter,) + some_tail(q, other, at + 1, pair[1])
        heads = longer
    return None


def tail_apart(q, steps, layer, one, other):
    """A tail that just one of two rooms of a layer has; all steps are live, and no two rooms have the same tails."""
    ways = [(x, steps[layer].get((one, x)), steps[layer].get((other, x))) for x in range(q)]
    letter, first, second = [way for way in ways if way[1] != way[2]][0]
    if first is None:
        return (letter,) + some_tail(q, steps, layer + 1, second)
    if second is None:
        return (letter,) + some_tail(q, steps, layer + 1, first)
    return (letter,) + tail_apart(q, steps, layer + 1, first, second)


def had_tails(steps, layer, room, tails):
    """Which of the tails of a layer a room has."""
    return [room_behind(steps, layer, room, tail) == 0 for tail in tails]


def telling_tails(q, steps, layer, many):
    """Some tails of a layer of many rooms: each room has one of them, and any two rooms differ in one.

    All steps are live, and no two rooms have the same tails.
    """
    found = []
    had = [[] for _ in range(many)]
    for room in range(many):
        # The rooms ahead differ from one another, so one of them at most is like this one.
        alike = [other for other in range(room) if had[other] == had[room]]
        some = [tail_apart(q, steps, layer, other, room) for other in alike]
        if True not in had[room] + had_tails(steps, layer, room, some):
            some.append(some_tail(q, steps, layer, room))
        found = found + some
        had = [had[other] + had_tails(steps, layer, other, some) for other in range(many)]
    return tuple(found)
