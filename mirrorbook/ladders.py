"""Ladders: the least sets of places that hold sub-books of each dimension."""

from mirrorbook.errors import BadNumber, BadPlaces
from mirrorbook.fields import check_field
from mirrorbook.places import MOST_PLACES, is_set, sets_of_size
from mirrorbook.tableforms import hold_at
from mirrorbook.tables import check_table, count_places, set_number
from mirrorbook.values import is_integer_from


def least_ranks(table):
    """For each t from 0 to n the least rank of a set of t places."""
    check_table(table)
    n = count_places(table)
    return tuple([min([table[set_number(places)] for places in sets_of_size(n, t)]) for t in range(n + 1)])


def greatest_holds(table):
    """For each t from 0 to n the greatest hold of a set of t places."""
    return tuple([table[-1] - least for least in reversed(least_ranks(table))])


def ladder(table):
    """For each j from 1 to the full rank the least size of a set whose hold is at least j."""
    holds = greatest_holds(table)
    # One more place makes the greatest hold greater by 1 at most, so that none is passed over.
    return tuple([holds.index(j) for j in range(1, table[-1] + 1)])


def mirror_ladder(n, steps):
    """The ladder of the mirror of a table with n places and this ladder."""
    if not is_integer_from(n, 1, MOST_PLACES):
        raise BadPlaces(n)
    if not is_set(n + 1, steps) or 0 in steps:
        raise BadNumber(steps)
    return tuple([step for step in range(1, n + 1) if n + 1 - step not in steps])


def check_step(table, j):
    check_table(table)
    if not is_integer_from(j, 1, table[-1]):
        raise BadNumber(j)


def least_sets(table, j):
    """All least sets of the step j, in order."""
    check_step(table, j)
    sets = sets_of_size(count_places(table), ladder(table)[j - 1])
    return tuple([places for places in sets if hold_at(table, set_number(places)) == j])


def gap(table, q):
    """The least j whose step shows that no book of q letters has the table, None if there is none."""
    steps = ladder(table)
    check_field(q)
    words = q
    for j in range(2, len(steps) + 1):
        words = words * q
        if (words - 1) * steps[j - 2] > (words - q) * steps[j - 1]:
            return j
    return None
