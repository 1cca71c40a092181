"""Papers of ladders: sets that reach a step or bar it, and chains of least sets."""

from mirrorbook.errors import BadNumber
from mirrorbook.ladders import check_step, ladder, least_sets
from mirrorbook.places import are_apart, are_sets, is_set, lies_within, sets_of_size
from mirrorbook.tableforms import hold_at, is_free_at
from mirrorbook.tables import check_table, count_places, set_number
from mirrorbook.values import is_integer_from, is_two


def check_step_and_size(table, j, size):
    check_step(table, j)
    if not is_integer_from(size, 0, count_places(table)):
        raise BadNumber(size)


def judge_reach(table, j, size):
    """A paper: a set of at most so many places whose hold is at least j, or sets that bar it."""
    check_step_and_size(table, j, size)
    if ladder(table)[j - 1] <= size:
        return ("reached", least_sets(table, j)[0])
    sets = sets_of_size(count_places(table), table[-1] - j + 1)
    return ("barred", tuple([places for places in sets if is_free_at(table, set_number(places))]))


def reach_holds(table, j, size, thing):
    """Whether any value is a right paper for j and a size."""
    check_step_and_size(table, j, size)
    if not is_two(thing):
        return False
    kind, proof = thing
    if kind == "reached":
        return is_set(count_places(table), proof) and len(proof) <= size and hold_at(table, set_number(proof)) >= j
    return kind == "barred" and do_bar(table, j, size, proof)


def do_bar(table, j, size, thing):
    """Whether any value is a tuple of sets that bar all sets of so many places."""
    n = count_places(table)
    if not are_sets(n, thing):
        return False
    free = [places for places in thing if is_free_at(table, set_number(places))]
    if len(free) < len(thing) or not all([len(places) == table[-1] - j + 1 for places in thing]):
        return False
    return all([any([are_apart(places, other) for other in thing]) for places in sets_of_size(n, size)])


def next_row(table, row, j):
    """All least sets of the step j within which some set of the row lies, in order."""
    return tuple([places for places in least_sets(table, j) if any([lies_within(less, places) for less in row])])


def chain_rows(table):
    """The least sets of each step to which chains lead that begin at the step 1, up to a step without such sets."""
    rows = [((),)]
    for j in range(1, table[-1] + 1):
        if rows[-1] != ():
            rows.append(next_row(table, rows[-1], j))
    return rows[1:]


def judge_chain(table):
    """A paper: a chain of least sets, or rows of least sets that show that there is none."""
    check_table(table)
    rows = chain_rows(table)
    if () in rows:
        return ("broken", tuple(rows))
    chain = ()
    for row in reversed(rows):
        fit = [places for places in row if chain == () or lies_within(places, chain[0])]
        chain = (fit[0],) + chain
    return ("chain", chain)


def chain_holds(table, thing):
    """Whether any value is a right paper about chains of the table."""
    check_table(table)
    if not is_two(thing):
        return False
    kind, proof = thing
    if kind == "chain":
        return is_chain(table, proof)
    return kind == "broken" and do_break(table, proof)


def is_chain(table, thing):
    """Whether any value is a chain: a least set of each step, each of them within the next one."""
    if not isinstance(thing, tuple) or len(thing) != table[-1]:
        return False
    if not all([is_set(count_places(table), places) for places in thing]):
        return False
    rising = all([lies_within(thing[at], thing[at + 1]) for at in range(len(thing) - 1)])
    return rising and all([places in least_sets(table, at + 1) for at, places in enumerate(thing)])


def do_break(table, thing):
    """Whether any value is a tuple of rows that show that there is no chain."""
    if not isinstance(thing, tuple) or not 1 <= len(thing) <= table[-1] or thing[-1] != ():
        return False
    if not all([are_sets(count_places(table), row) for row in thing]):
        return False
    # Each least set of the step 1 has () within it, so row 0 is like the others behind a row of () alone.
    ahead = (((),),) + thing
    for j in range(1, len(thing) + 1):
        if not all([places in ahead[j] for places in next_row(table, ahead[j - 1], j)]):
            return False
    return True
