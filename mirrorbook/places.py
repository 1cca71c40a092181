"""Places from 0 to n - 1, sets of them, orders of them."""

from itertools import combinations

from mirrorbook.errors import BadOrder, BadPlace, BadSet
from mirrorbook.values import are_integers, are_integers_from, is_ascending, is_integer_from

MOST_PLACES = 8


def is_set(n, thing):
    """Whether any value is a set of n places: an ascending tuple of them."""
    return are_integers_from(thing, 0, n - 1) and is_ascending(thing)


def is_set_of_size(n, size, thing):
    """Whether any value is a set of so many of n places."""
    return is_set(n, thing) and len(thing) == size


def are_sets(n, thing):
    """Whether any value is a tuple of sets of n places, in order, none of them twice."""
    if not isinstance(thing, tuple) or not all([is_set(n, item) for item in thing]):
        return False
    return is_ascending([size_and_places(places) for places in thing])


def is_order(n, thing):
    """Whether any value is a tuple that has each of n places once."""
    return are_integers(thing) and sorted(thing) == list(range(n))


def check_set(n, places):
    if not is_set(n, places):
        raise BadSet(places)


def check_place(n, place):
    if not is_integer_from(place, 0, n - 1):
        raise BadPlace(place)


def check_order(n, order):
    if not is_order(n, order):
        raise BadOrder(order)


def rest_of(n, places):
    """The set of all other places."""
    return tuple([place for place in range(n) if place not in places])


def sets_of_size(n, size):
    """All sets of so many of n places, in order."""
    return list(combinations(range(n), size))


def kept_places(n, places):
    """The places that are kept if a set is left out, which cannot be the set of all places."""
    check_set(n, places)
    if len(places) == n:
        raise BadSet(places)
    return rest_of(n, places)


def picked(row, places):
    """The items of the row at these places."""
    return tuple([row[place] for place in places])


def placed(items, places):
    """The row that has these items at these places, which are all places of the row."""
    found = list(items)
    for item, place in zip(items, places):
        found[place] = item
    return tuple(found)


def in_order(sets):
    """The tuple of the sets, shorter ones first, those of the same length as Python compares them."""
    return tuple(sorted(sets, key=size_and_places))


def size_and_places(places):
    return (len(places), places)


def lies_within(places, others):
    """Whether all places of a set are in another one."""
    return all([place in others for place in places])


def are_apart(places, others):
    """Whether two sets have no place in common."""
    return not any([place in others for place in places])
