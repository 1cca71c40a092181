"""Tables: the rank of each set of places, at the number of the set."""

from mirrorbook.errors import BadNumber, BadPlaces, BadSet, BadTable
from mirrorbook.places import MOST_PLACES, check_set, is_set, picked
from mirrorbook.rows import reduced_rows
from mirrorbook.values import are_integers, are_integers_from, is_integer_from

SIZES = (2, 4, 8, 16, 32, 64, 128, 256)


def set_number(places):
    """The number of a set of at most eight places."""
    if not is_set(MOST_PLACES, places):
        raise BadSet(places)
    return sum([1 << place for place in places])


def set_of(number):
    """The set with this number."""
    if not is_integer_from(number, 0, 255):
        raise BadNumber(number)
    return tuple([place for place in range(MOST_PLACES) if has_place(number, place)])


def has_place(number, place):
    """Whether the set with this number has the place."""
    return (number >> place) & 1 == 1


def with_place(number, place):
    """The number of the set with this place put into it."""
    return number | (1 << place)


def rest_number(table, number):
    """The number of the rest of a set of places of a table."""
    return (len(table) - 1) ^ number


def check_ranks(ranks):
    if not are_integers(ranks) or len(ranks) not in SIZES:
        raise BadTable(ranks)


def count_places(ranks):
    """The n of a tuple of 2 ** n ranks."""
    return len(ranks).bit_length() - 1


def is_table(thing):
    """Whether any value is a table."""
    return are_integers(thing) and len(thing) in SIZES and find_fault(thing) is None


def check_table(thing):
    if not is_table(thing):
        raise BadTable(thing)


def first_fault(ranks):
    """The fault that stands first, None for a table."""
    check_ranks(ranks)
    return find_fault(ranks)


def find_fault(ranks):
    if ranks[0] != 0:
        return ("start",)
    for number in range(len(ranks)):
        fault = find_fault_at(ranks, number)
        if fault is not None:
            return fault
    return None


def find_fault_at(ranks, number):
    """The first fault of a step or a pair at the set with this number, None if there is none."""
    new = [place for place in range(count_places(ranks)) if not has_place(number, place)]
    for one in new:
        if is_step_fault(ranks, number, one):
            return ("step", set_of(number), one)
    for one in new:
        for other in new:
            if one < other and is_pair_fault(ranks, number, one, other):
                return ("pair", set_of(number), one, other)
    return None


def is_step_fault(ranks, number, place):
    """Whether a new place makes the rank of a set less, or greater by more than one."""
    return ranks[with_place(number, place)] - ranks[number] not in (0, 1)


def is_pair_fault(ranks, number, one, other):
    """Whether two new places change the rank of a set together, but neither alone."""
    first = with_place(number, one)
    second = with_place(number, other)
    return ranks[first] == ranks[number] == ranks[second] and ranks[first | second] != ranks[number]


def fault_holds(ranks, thing):
    """Whether any value is a fault of the ranks."""
    check_ranks(ranks)
    if thing == ("start",):
        return ranks[0] != 0
    n = count_places(ranks)
    if not isinstance(thing, tuple) or len(thing) < 3 or not is_set(n, thing[1]):
        return False
    new = thing[2:]
    if not are_integers_from(new, 0, n - 1):
        return False
    # A place that is in the set already makes no fault, since the set stays as it is.
    number = set_number(thing[1])
    if thing[0] == "step" and len(new) == 1:
        return is_step_fault(ranks, number, new[0])
    return thing[0] == "pair" and len(new) == 2 and new[0] < new[1] and is_pair_fault(ranks, number, new[0], new[1])


def table_of(book):
    """The table of a book."""
    return tuple([rank_in_book(book, set_of(number)) for number in range(1 << book.n)])


def rank_in_book(book, places):
    """How many independent letters can be read at the places."""
    return len(reduced_rows(book.q, len(places), [picked(row, places) for row in book.rows]))


def uniform_table(n, k):
    """The table in which the rank of a set is its size, but at most k."""
    if not is_integer_from(n, 1, MOST_PLACES):
        raise BadPlaces(n)
    if not is_integer_from(k, 0, n):
        raise BadNumber(k)
    return tuple([min(k, len(set_of(number))) for number in range(1 << n)])


def places_of(table):
    """How many places the table has."""
    check_table(table)
    return count_places(table)


def rank(table, places):
    """The rank of a set."""
    check_table(table)
    check_set(count_places(table), places)
    return table[set_number(places)]


def full_rank(table):
    """The rank of all places."""
    check_table(table)
    return table[-1]
