"""Readers: rooms and doors that accept the words of a book, letter by letter."""

from mirrorbook.bookforms import mirror
from mirrorbook.books import count_words, is_word
from mirrorbook.errors import BadReader, OtherFields, OtherPlaces, TooMany
from mirrorbook.letters import row_product, row_sum, row_support, row_times
from mirrorbook.places import MOST_PLACES, check_order, is_set, picked, placed
from mirrorbook.rows import reduced_rows, rows_with_unlike_ends
from mirrorbook.values import are_integers_from, are_tuples, is_ascending, is_integer_from, is_row, is_two
from mirrorbook.walks import all_steps, book_steps, first_alikes, first_difference, had_tails, in_line, live_layers
from mirrorbook.walks import live_steps, merged_steps, room_behind, some_heads, telling_tails, tuples_of_walks
from mirrorbook.walks import weight_counts

MOST_ROOMS = 64


def rows_in_order(book, order):
    """Span rows of the book, with their letters by position."""
    rows = reduced_rows(book.q, book.n, [picked(row, order) for row in book.rows])
    return rows_with_unlike_ends(book.q, rows)


def span_rows(book, order):
    """Words of the book, one for each span in the order, that begin and end there."""
    check_order(book.n, order)
    return tuple([placed(row, order) for row in rows_in_order(book, order)])


def first_and_last(row):
    """The first and the last position with a letter that is not 0, () if there is none."""
    positions = row_support(row)
    return positions[:1] + positions[-1:]


def are_span_rows(book, order, thing):
    """Whether any value is a tuple of span rows."""
    check_order(book.n, order)
    if not isinstance(thing, tuple) or not all([is_word(book, row) for row in thing]):
        return False
    wanted = [first_and_last(row) for row in rows_in_order(book, order)]
    return [first_and_last(picked(row, order)) for row in thing] == wanted


def is_reader(thing):
    """Whether any value is a reader."""
    if not isinstance(thing, tuple) or len(thing) != 3:
        return False
    q, rooms, doors = thing
    return is_integer_from(q, 2, 5) and are_rooms(rooms) and are_layers(q, rooms, doors)


def are_rooms(thing):
    """Whether any value is a tuple of numbers of rooms, one room in the first and in the last layer."""
    if not are_integers_from(thing, 1, MOST_ROOMS) or not 2 <= len(thing) <= MOST_PLACES + 1:
        return False
    return thing[0] == 1 and thing[-1] == 1


def are_layers(q, rooms, thing):
    """Whether any value is a tuple of layers of doors between so many rooms."""
    if not isinstance(thing, tuple) or len(thing) != len(rooms) - 1:
        return False
    return all([are_doors(q, rooms[at], rooms[at + 1], layer) for at, layer in enumerate(thing)])


def are_doors(q, ahead, behind, thing):
    """Whether any value is a layer of doors from so many rooms to so many rooms."""
    if not isinstance(thing, tuple) or not all([is_door(q, ahead, behind, door) for door in thing]):
        return False
    # Doors that ascend and do not share room and letter ascend by these two.
    return is_ascending([door[:2] for door in thing])


def is_door(q, ahead, behind, thing):
    if not isinstance(thing, tuple) or len(thing) != 3:
        return False
    room, letter, other = thing
    rooms_exist = is_integer_from(room, 0, ahead - 1) and is_integer_from(other, 0, behind - 1)
    return rooms_exist and is_integer_from(letter, 0, q - 1)


def check_reader(reader):
    if not is_reader(reader):
        raise BadReader(reader)


def check_all(book, order, reader):
    check_reader(reader)
    if book.q != reader[0]:
        raise OtherFields()
    if book.n != len(reader[2]):
        raise OtherPlaces()
    check_order(book.n, order)


def reader_of(book, order):
    """The only least reader in line that accepts just the words of the book."""
    check_order(book.n, order)
    # Span rows make just the rooms and doors that are needed, so these are only to be numbered.
    return in_line(book.q, (), book_steps(book.q, book.n, rows_in_order(book, order)))


def does_accept(reader, thing):
    """Whether any value is a tuple of letters that the reader accepts."""
    check_reader(reader)
    q, _, doors = reader
    return is_row(q, len(doors), thing) and room_behind(all_steps(doors), 0, 0, thing) == 0


def accepted(reader, *, most=4096):
    """The ascending tuple of all tuples of letters that the reader accepts."""
    if sum(weights_along(reader)) > most:
        raise TooMany(most)
    return tuples_of_walks(live_steps(all_steps(reader[2])))


def live_rooms(reader):
    """For each layer the ascending tuple of its live rooms."""
    check_reader(reader)
    return live_layers(all_steps(reader[2]))


def weights_along(reader):
    """How many of the tuples that the reader accepts have 0, 1, .., n letters other than 0."""
    check_reader(reader)
    return weight_counts(all_steps(reader[2]))


def reduced_reader(reader):
    """The least reader in line that accepts the same tuples, None if it accepts none."""
    check_reader(reader)
    q, _, doors = reader
    steps = live_steps(all_steps(doors))
    if steps[0] == {}:
        return None
    return in_line(q, 0, merged_steps(q, steps))


def checks_in_order(book, order):
    """The reduced rows of the mirror of the book, with their letters by position."""
    return [picked(row, order) for row in mirror(book).rows]


def mark_of(q, checks, head):
    """The mark of the room with this head, None for a room without one."""
    if head is None:
        return None
    # The product of two rows of unlike lengths ends with the shorter one.
    return tuple([row_product(q, check, head) for check in checks])


def judge_reader(book, order, reader):
    """A paper: marks that show that just the words of the book are accepted, or a word in which the two differ."""
    check_all(book, order, reader)
    q, rooms, doors = reader
    steps = live_steps(all_steps(doors))
    found = first_difference(q, steps, all_steps(reader_of(book, order)[2]))
    if found is not None:
        return ("differs", placed(found, order))
    checks = checks_in_order(book, order)
    marks = []
    for many, heads in zip(rooms, some_heads(steps)):
        marks.append(tuple([mark_of(q, checks, heads.get(room)) for room in range(many)]))
    return ("same", tuple(marks))


def reader_holds(book, order, reader, thing):
    """Whether any value is a right paper for a book, an order and a reader."""
    check_all(book, order, reader)
    if not is_two(thing):
        return False
    kind, proof = thing
    if kind == "differs":
        return is_row(book.q, book.n, proof) and does_accept(reader, picked(proof, order)) != is_word(book, proof)
    return kind == "same" and do_marks_fit(book, order, reader, proof)


def do_marks_fit(book, order, reader, thing):
    """Whether any value is a tuple of right marks, and as many tuples are accepted as the book has words."""
    q, rooms, doors = reader
    steps = all_steps(doors)
    checks = checks_in_order(book, order)
    if not are_marks(q, len(checks), rooms, live_layers(steps), thing):
        return False
    zeros = (0,) * len(checks)
    if thing[0] != (zeros,) or thing[-1] != (zeros,) or sum(weight_counts(steps)) != count_words(book):
        return False
    for at, step in enumerate(live_steps(steps)):
        letters = tuple([check[at] for check in checks])
        for room, letter in step:
            mark = row_sum(q, thing[at][room], row_times(q, letter, letters))
            if thing[at + 1][step[(room, letter)]] != mark:
                return False
    return True


def are_marks(q, length, rooms, live, thing):
    """Whether any value has for each live room letters, so many of them, and None for all other rooms."""
    if not are_tuples(rooms, thing):
        return False
    for at, row in enumerate(thing):
        for room, mark in enumerate(row):
            if room in live[at] and not is_row(q, length, mark):
                return False
            if room not in live[at] and mark is not None:
                return False
    return True


def spare_rooms(reader):
    """A layer and one room of it that is not live, or two live ones with the same tails; None if there are none."""
    q, rooms, doors = reader
    live = live_rooms(reader)
    firsts = first_alikes(q, live_steps(all_steps(doors)))
    for layer, many in enumerate(rooms):
        for room in range(many):
            if room not in live[layer]:
                return (layer, (room,))
            if firsts[layer][room] != room:
                return (layer, (firsts[layer][room], room))
    return None


def judge_least(reader):
    """A paper: heads and tails that show that no room could be left out, or rooms that could be."""
    check_reader(reader)
    spare = spare_rooms(reader)
    if spare is not None:
        return ("spare",) + spare
    q, rooms, doors = reader
    steps = all_steps(doors)
    heads = [tuple([head for _, head in sorted(found.items())]) for found in some_heads(steps)]
    tails = [telling_tails(q, steps, layer, many) for layer, many in enumerate(rooms)]
    return ("least", tuple(heads), tuple(tails))


def least_holds(reader, thing):
    """Whether any value is a right paper for a reader being least."""
    check_reader(reader)
    if not isinstance(thing, tuple) or len(thing) != 3:
        return False
    kind, one, other = thing
    if kind == "least":
        return do_heads_lead(reader, one) and do_tails_tell(reader, other)
    return kind == "spare" and are_spare(reader, one, other)


def do_heads_lead(reader, thing):
    """Whether any value has for each layer one head for each room."""
    q, rooms, doors = reader
    steps = all_steps(doors)
    if not are_tuples(rooms, thing):
        return False
    for layer, row in enumerate(thing):
        for room, head in enumerate(row):
            if not is_row(q, layer, head) or room_behind(steps, 0, 0, head) != room:
                return False
    return True


def do_tails_tell(reader, thing):
    """Whether any value has for each layer tails that tell its rooms from one another."""
    q, rooms, doors = reader
    if not isinstance(thing, tuple) or len(thing) != len(rooms):
        return False
    return all([do_tell_apart(q, all_steps(doors), layer, rooms[layer], tails) for layer, tails in enumerate(thing)])


def do_tell_apart(q, steps, layer, many, thing):
    """Whether each of so many rooms has one of some tails, and no two have the same ones of them."""
    if not isinstance(thing, tuple) or not all([is_row(q, len(steps) - layer, tail) for tail in thing]):
        return False
    had = [had_tails(steps, layer, room, thing) for room in range(many)]
    return all([True in row for row in had]) and len({tuple(row) for row in had}) == many


def are_spare(reader, layer, some):
    """Whether any two values are a layer and one room of it that is not live, or two live ones with the same tails."""
    q, rooms, doors = reader
    if not is_integer_from(layer, 0, len(doors)) or not is_set(rooms[layer], some) or not 1 <= len(some) <= 2:
        return False
    live = live_rooms(reader)[layer]
    if len(some) == 1:
        return some[0] not in live
    firsts = first_alikes(q, live_steps(all_steps(doors)))[layer]
    return all([room in live for room in some]) and firsts[some[0]] == firsts[some[1]]
