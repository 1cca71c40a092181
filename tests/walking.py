"""Readers worked out the long way: all walks listed, with all heads and tails of each room."""

from itertools import product

from tests import brute
from tests.samples import is_int, is_letters, is_places

# A reader with a room that is not reached, one without tails, and two with the same tails.
MIXED = (
    3,
    (1, 3, 3, 1),
    (((0, 0, 0), (0, 1, 1)), ((0, 0, 0), (1, 0, 1), (1, 2, 2), (2, 1, 0)), ((0, 2, 0), (1, 2, 0))),
)


def fits(thing):
    """Whether any value is a reader, by the words of [5.3]."""
    if type(thing) is not tuple or len(thing) != 3:
        return False
    q, rooms, doors = thing
    if not is_int(q) or q not in (2, 3, 4, 5) or type(rooms) is not tuple or type(doors) is not tuple:
        return False
    if not all(is_int(many) and 1 <= many <= 64 for many in rooms) or not 2 <= len(rooms) <= 9:
        return False
    if rooms[0] != 1 or rooms[-1] != 1 or len(doors) != len(rooms) - 1:
        return False
    return all(fits_layer(q, rooms[i], rooms[i + 1], layer) for i, layer in enumerate(doors))


def fits_layer(q, ahead, behind, layer):
    if type(layer) is not tuple or not all(type(door) is tuple and len(door) == 3 for door in layer):
        return False
    if not all(is_int(part) and part >= 0 for door in layer for part in door):
        return False
    if not all(room < ahead and letter < q and other < behind for room, letter, other in layer):
        return False
    return list(layer) == sorted(layer) and len({door[:2] for door in layer}) == len(layer)


class Walked:
    """What a reader accepts, and the heads and the tails of its rooms, all of them listed."""

    def __init__(self, reader):
        self.q, self.rooms, self.doors = reader
        self.n = len(self.doors)
        self.heads = [{0: {()}}]
        for layer in self.doors:
            found = {}
            for room, letter, behind in layer:
                heads = self.heads[-1].get(room, set())
                found.setdefault(behind, set()).update(head + (letter,) for head in heads)
            self.heads.append(found)
        tails = [{0: {()}}]
        for layer in reversed(self.doors):
            found = {}
            for room, letter, behind in layer:
                found.setdefault(room, set()).update((letter,) + tail for tail in tails[-1].get(behind, set()))
            tails.append(found)
        self.tails = tails[::-1]
        self.accepted = sorted(self.tails_of(0, 0))
        self.live = tuple(
            tuple(room for room in range(many) if self.heads_of(i, room) and self.tails_of(i, room))
            for i, many in enumerate(self.rooms)
        )

    def heads_of(self, i, room):
        return self.heads[i].get(room, set())

    def tails_of(self, i, room):
        return self.tails[i].get(room, set())

    def is_least(self):
        for i, many in enumerate(self.rooms):
            if self.live[i] != tuple(range(many)):
                return False
            if len({frozenset(self.tails_of(i, room)) for room in range(many)}) < many:
                return False
        return True

    def is_in_line(self):
        least = [[min(self.heads_of(i, room)) for room in range(many)] for i, many in enumerate(self.rooms)]
        return all(row == sorted(row) for row in least)

    def weights(self):
        sizes = [sum(1 for letter in some if letter) for some in self.accepted]
        return tuple(sizes.count(weight) for weight in range(self.n + 1))

    def is_least_paper(self, thing):
        """Whether any value is a right paper of [5.5]."""
        if type(thing) is not tuple or len(thing) != 3 or type(thing[0]) is not str:
            return False
        if thing[0] == "spare":
            return self.are_spare(thing[1], thing[2])
        return thing[0] == "least" and self.do_lead(thing[1]) and self.do_tell(thing[2])

    def are_spare(self, layer, some):
        if not is_int(layer) or not 0 <= layer <= self.n or not is_places(self.rooms[layer], some):
            return False
        live = [room in self.live[layer] for room in some]
        if len(some) == 2:
            return all(live) and self.tails_of(layer, some[0]) == self.tails_of(layer, some[1])
        return live == [False]

    def do_lead(self, heads):
        if type(heads) is not tuple or len(heads) != self.n + 1 or not all(type(row) is tuple for row in heads):
            return False
        if [len(row) for row in heads] != list(self.rooms):
            return False
        rows = list(enumerate(heads))
        if not all(is_letters(self.q, head) and len(head) == i for i, row in rows for head in row):
            return False
        return all(head in self.heads_of(i, room) for i, row in rows for room, head in enumerate(row))

    def do_tell(self, tails):
        if type(tails) is not tuple or len(tails) != self.n + 1 or not all(type(row) is tuple for row in tails):
            return False
        for i, row in enumerate(tails):
            if not all(is_letters(self.q, tail) and len(tail) == self.n - i for tail in row):
                return False
            had = [frozenset(self.tails_of(i, room) & set(row)) for room in range(self.rooms[i])]
            if frozenset() in had or len(set(had)) < len(had):
                return False
        return True


class Read:
    """A book in an order, with all its words and checks listed."""

    def __init__(self, book, order):
        self.q, self.n, self.order = book.q, book.n, order
        self.words = brute.span(book.q, book.n, book.rows)
        self.checks = brute.reduced(book.q, book.n, brute.checks(book.q, book.n, book.rows))
        self.in_order = sorted(tuple(word[place] for place in order) for word in self.words)

    def is_paper(self, walked, thing):
        """Whether any value is a right paper of [5.4] for a reader that was walked through."""
        if type(thing) is not tuple or len(thing) != 2 or type(thing[0]) is not str:
            return False
        kind, proof = thing
        if kind == "differs":
            if not is_letters(self.q, proof) or len(proof) != self.n:
                return False
            return (tuple(proof[place] for place in self.order) in walked.accepted) != (proof in self.words)
        return kind == "same" and self.are_shaped(walked, proof) and self.do_fit(walked, proof)

    def are_shaped(self, walked, marks):
        if type(marks) is not tuple or len(marks) != self.n + 1 or not all(type(row) is tuple for row in marks):
            return False
        if [len(row) for row in marks] != list(walked.rooms):
            return False
        for i, row in enumerate(marks):
            for room, mark in enumerate(row):
                lettered = is_letters(self.q, mark) and len(mark) == len(self.checks)
                if not (lettered if room in walked.live[i] else mark is None):
                    return False
        return True

    def do_fit(self, walked, marks):
        zeros = (0,) * len(self.checks)
        if marks[0][0] != zeros or marks[-1][0] != zeros or len(walked.accepted) != len(self.words):
            return False
        for i, layer in enumerate(walked.doors):
            letters = tuple(check[self.order[i]] for check in self.checks)
            for room, letter, behind in layer:
                if room in walked.live[i] and behind in walked.live[i + 1]:
                    step = brute.word_times(self.q, letter, letters)
                    if brute.word_plus(self.q, marks[i][room], step) != marks[i + 1][behind]:
                        return False
        return True


def random_reader(random, q, n, most, share):
    """A reader with at most so many rooms in a layer, and about such a share of all doors in a hundred."""
    rooms = [1] + [random.randrange(1, most + 1) for _ in range(n - 1)] + [1]
    doors = []
    for ahead, behind in zip(rooms, rooms[1:]):
        some = [(room, letter) for room, letter in product(range(ahead), range(q)) if random.randrange(100) < share]
        doors.append(tuple((room, letter, random.randrange(behind)) for room, letter in some))
    return (q, tuple(rooms), tuple(doors))


def random_readers(random, many):
    """Readers of all kinds: some accept nothing, most have rooms that are not live, or rooms with the same tails."""
    found = []
    for _ in range(many):
        q, n = random.choice((2, 2, 3, 4, 5)), random.randrange(1, 6)
        found.append(random_reader(random, q, n, random.randrange(1, 5), random.choice((20, 50, 80, 100))))
    return found


def every_tuple(q, n):
    """The reader that accepts all tuples of letters."""
    return (q, (1,) * (n + 1), (tuple((0, letter, 0) for letter in range(q)),) * n)


def with_doors(reader, i, doors):
    q, rooms, layers = reader
    return (q, rooms, layers[:i] + (tuple(sorted(doors)),) + layers[i + 1 :])


def without_door(reader, i, at):
    """The reader with one door left out."""
    doors = reader[2][i]
    return with_doors(reader, i, doors[:at] + doors[at + 1 :])


def with_letter(reader, i, at, letter):
    """The reader with another letter at one door, None if this is no reader."""
    room, _, behind = reader[2][i][at]
    doors = [door for number, door in enumerate(reader[2][i]) if number != at]
    changed = with_doors(reader, i, [*doors, (room, letter, behind)])
    return changed if fits(changed) else None


def with_letters_exchanged(reader, i, letters):
    """The reader with the letter letters[x] in the place of each letter x in layer i."""
    return with_doors(reader, i, [(room, letters[x], behind) for room, x, behind in reader[2][i]])


def with_copy(reader, i, at):
    """The reader with one door of layer i that leads to a new room, a copy of the one to which it led."""
    q, rooms, layers = reader
    room, letter, behind = layers[i][at]
    new = rooms[i + 1]
    doors = [door for number, door in enumerate(layers[i]) if number != at]
    copied = [(new, x, other) for one, x, other in layers[i + 1] if one == behind]
    changed = (q, rooms[: i + 1] + (new + 1,) + rooms[i + 2 :], layers)
    changed = with_doors(changed, i, [*doors, (room, letter, new)])
    return with_doors(changed, i + 1, [*layers[i + 1], *copied])


def with_rooms_exchanged(random, reader):
    """The reader with the rooms of each layer numbered in another order."""
    q, rooms, layers = reader
    names = [random.sample(range(many), many) for many in rooms]
    doors = []
    for i, layer in enumerate(layers):
        doors.append(tuple(sorted((names[i][a], letter, names[i + 1][b]) for a, letter, b in layer)))
    return (q, rooms, tuple(doors))
