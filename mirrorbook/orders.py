"""Best orders of a table, and papers for the cuts that orders can have."""

from mirrorbook.cuts import cut_at, cut_bounds, cuts
from mirrorbook.places import are_sets, in_order, is_order
from mirrorbook.tables import check_table, count_places, has_place, set_number, set_of, with_place
from mirrorbook.values import are_integers, is_two


def cuts_of_sets(table):
    """The cuts of all sets, at their numbers."""
    return [cut_at(table, number) for number in range(len(table))]


def narrow_costs(table, m):
    """The cuts of all sets, None for those that are greater than m."""
    return [cut if cut <= m else None for cut in cuts_of_sets(table)]


def new_places(costs, number):
    """The places that are not in a set."""
    return [place for place in range(count_places(costs)) if not has_place(number, place)]


def least_sums(costs):
    """For each set the least sum of the costs of all longer fronts, over the orders that begin with its places.

    It is None if the set has no cost, or each of these orders has a longer front without a cost.
    """
    found = [None] * len(costs)
    for number in reversed(range(len(costs))):
        longer = [with_place(number, place) for place in new_places(costs, number)]
        sums = [costs[more] + found[more] for more in longer if found[more] is not None]
        if longer == []:
            sums = [0]
        if costs[number] is not None:
            found[number] = min(sums, default=None)
    return found


def first_order(costs):
    """The first of the orders with the least sum of costs, None if each order has a front without a cost."""
    sums = least_sums(costs)
    if sums[0] is None:
        return None
    order = ()
    number = 0
    while new_places(costs, number) != []:
        fit = [place for place in new_places(costs, number) if is_on_the_way(costs, sums, number, place)]
        order = order + (fit[0],)
        number = with_place(number, fit[0])
    return order


def is_on_the_way(costs, sums, number, place):
    """Whether an order with the least sum can go on with a place behind a set."""
    more = with_place(number, place)
    return sums[more] is not None and costs[more] + sums[more] == sums[number]


def best_order(table):
    """The first of the orders with the least load."""
    check_table(table)
    m = 0
    order = first_order(narrow_costs(table, m))
    while order is None:
        m = m + 1
        order = first_order(narrow_costs(table, m))
    return order


def best_load(table):
    """The greatest cut of the best order, and the sum of its cuts."""
    found = cuts(table, best_order(table))
    return (max(found), sum(found))


def smooth_order(table):
    """The first order whose cuts are all equal to their bounds, None if there is none."""
    bounds = cut_bounds(table)
    found = cuts_of_sets(table)
    smooth = [found[number] == bounds[len(set_of(number))] for number in range(len(table))]
    return first_order([cut if fits else None for cut, fits in zip(found, smooth)])


def judge_narrow(table, m):
    """A paper: an order all of whose cuts are at most m, or sets with greater cuts that all orders meet."""
    check_table(table)
    costs = narrow_costs(table, m)
    order = first_order(costs)
    if order is not None:
        return ("order", order)
    return ("shut", in_order([set_of(number) for number in range(len(table)) if costs[number] is None]))


def narrow_holds(table, m, thing):
    """Whether any value is a right paper for all cuts at most m."""
    check_table(table)
    if not is_two(thing):
        return False
    kind, proof = thing
    if kind == "order":
        return is_order(count_places(table), proof) and max(cuts(table, proof)) <= m
    return kind == "shut" and do_shut(table, m, proof)


def do_shut(table, m, thing):
    """Whether any value is a tuple of sets with cuts greater than m of which each order has a front."""
    if not are_sets(count_places(table), thing):
        return False
    if not all([cut_at(table, set_number(places)) > m for places in thing]):
        return False
    # The orders that meet none of the sets are those that never come to a set without a cost.
    costs = [None if set_of(number) in thing else 0 for number in range(len(table))]
    return least_sums(costs)[0] is None


def judge_short(table, m):
    """A paper: an order whose cuts have a sum of at most m, or numbers that show that there is none."""
    check_table(table)
    costs = cuts_of_sets(table)
    sums = least_sums(costs)
    if sums[0] <= m:
        return ("order", first_order(costs))
    # What is spent of the least sum of all on the way to a set never grows by more than a cut.
    return ("long", tuple([sums[0] - left for left in sums]))


def short_holds(table, m, thing):
    """Whether any value is a right paper for a sum of the cuts of at most m."""
    check_table(table)
    if not is_two(thing):
        return False
    kind, proof = thing
    if kind == "order":
        return is_order(count_places(table), proof) and sum(cuts(table, proof)) <= m
    return kind == "long" and are_long(table, m, proof)


def are_long(table, m, thing):
    """Whether any value is a tuple of numbers of all sets that show that the cuts have no sum of at most m."""
    if not are_integers(thing) or len(thing) != len(table) or thing[0] != 0 or thing[-1] <= m:
        return False
    for number in range(len(table)):
        for place in new_places(table, number):
            more = with_place(number, place)
            if thing[more] > thing[number] + cut_at(table, more):
                return False
    return True
