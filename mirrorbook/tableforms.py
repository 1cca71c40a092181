"""Tables made of tables, kinds of sets, pieces."""

from mirrorbook.errors import BadPlace, BadPlaces
from mirrorbook.places import MOST_PLACES, check_order, check_place, check_set, in_order, is_set, kept_places
from mirrorbook.tables import check_table, count_places, has_place, rest_number, set_number, set_of, with_place
from mirrorbook.values import is_two


def mirror_table(table):
    """The mirror of the table: size of a set plus rank of its rest minus full rank."""
    check_table(table)
    return tuple([len(set_of(number)) - hold_at(table, number) for number in range(len(table))])


def old_number(olds, number):
    """The number of the set of the old places that the places of a new set stand for."""
    found = 0
    for place in set_of(number):
        found = with_place(found, olds[place])
    return found


def drawn(table, olds):
    """The table whose place i stands for the old place olds[i]."""
    return tuple([table[old_number(olds, number)] for number in range(1 << len(olds))])


def table_without(table, places):
    """The table with these places left out."""
    check_table(table)
    return drawn(table, kept_places(count_places(table), places))


def table_fixed(table, places):
    """The table of the ranks that sets have beyond that of these places, which are left out."""
    check_table(table)
    kept = kept_places(count_places(table), places)
    base = set_number(places)
    return tuple([table[base | old_number(kept, number)] - table[base] for number in range(1 << len(kept))])


def check_many_places(n):
    """Raises an error if a table that is made would have too many places."""
    if n > MOST_PLACES:
        raise BadPlaces(n)


def tables_beside(one, other):
    """The table in which the rank of a set is the sum of the ranks of its two parts."""
    check_table(one)
    check_table(other)
    check_many_places(count_places(one) + count_places(other))
    return tuple([ahead + behind for behind in other for ahead in one])


def table_repeated(table, place):
    """The table with one more place, which stands for the place as well."""
    check_table(table)
    n = count_places(table)
    check_place(n, place)
    check_many_places(n + 1)
    return drawn(table, tuple(range(n)) + (place,))


def table_turned(table, order):
    """The table whose place i stands for the old place order[i]."""
    check_table(table)
    check_order(count_places(table), order)
    return drawn(table, order)


def checked_number(table, places):
    """The number of a set of places of a table; raises an error if one of the two is wrong."""
    check_table(table)
    check_set(count_places(table), places)
    return set_number(places)


def hold_at(table, number):
    return table[-1] - table[rest_number(table, number)]


def hold(table, places):
    """The full rank less the rank of all other places."""
    return hold_at(table, checked_number(table, places))


def closure_of(table, number):
    """The number of the set of all places that hang on a set."""
    found = number
    for place in range(count_places(table)):
        if table[with_place(number, place)] == table[number]:
            found = with_place(found, place)
    return found


def closure(table, places):
    """The set of all places that hang on a set."""
    return set_of(closure_of(table, checked_number(table, places)))


def is_free_at(table, number):
    return table[number] == len(set_of(number))


def is_closed_at(table, number):
    return closure_of(table, number) == number


def is_cover_at(table, number):
    return is_closed_at(table, rest_number(table, number))


def is_base_at(table, number):
    return is_free_at(table, number) and table[number] == table[-1]


def is_ring_at(table, number):
    """Whether a set is not free, but becomes free when any one of its places is taken away."""
    lesser = [number ^ (1 << place) for place in set_of(number)]
    return not is_free_at(table, number) and all([is_free_at(table, less) for less in lesser])


def is_free(table, places):
    """Whether the rank of a set is its size."""
    return is_free_at(table, checked_number(table, places))


def is_closed(table, places):
    """Whether a set is its own closure."""
    return is_closed_at(table, checked_number(table, places))


def is_cover(table, places):
    """Whether the rest of a set is closed."""
    return is_cover_at(table, checked_number(table, places))


def bases(table):
    """All free sets of the full rank, in order."""
    check_table(table)
    return in_order([set_of(number) for number in range(len(table)) if is_base_at(table, number)])


def rings(table):
    """All rings, in order."""
    check_table(table)
    return in_order([set_of(number) for number in range(len(table)) if is_ring_at(table, number)])


def closed_sets(table):
    """All closed sets, in order."""
    check_table(table)
    return in_order([set_of(number) for number in range(len(table)) if is_closed_at(table, number)])


def covers(table):
    """All covers, in order."""
    check_table(table)
    return in_order([set_of(number) for number in range(len(table)) if is_cover_at(table, number)])


def does_part(table, number):
    """Whether the ranks of a set and of its rest add up to the full rank."""
    return table[number] == hold_at(table, number)


def piece_with(table, place):
    """The piece that has the place: what all sets that part the table and have the place share."""
    shared = len(table) - 1
    for number in range(len(table)):
        if has_place(number, place) and does_part(table, number):
            shared = shared & number
    return set_of(shared)


def pieces(table):
    """The ascending tuple of the pieces."""
    check_table(table)
    return tuple(sorted({piece_with(table, place) for place in range(count_places(table))}))


def check_two_places(table, one, other):
    check_table(table)
    n = count_places(table)
    check_place(n, one)
    check_place(n, other)
    if one == other:
        raise BadPlace(other)


def judge_places(table, one, other):
    """A paper for two different places: a ring that has both, or a set that parts the table between them."""
    check_two_places(table, one, other)
    piece = piece_with(table, one)
    if other not in piece:
        return ("parted", piece)
    return ("ring", [ring for ring in rings(table) if one in ring and other in ring][0])


def places_holds(table, one, other, thing):
    """Whether any value is a right paper for two different places."""
    check_two_places(table, one, other)
    if not is_two(thing) or not is_set(count_places(table), thing[1]):
        return False
    kind, places = thing
    number = set_number(places)
    if kind == "ring":
        return one in places and other in places and is_ring_at(table, number)
    return kind == "parted" and one in places and other not in places and does_part(table, number)
