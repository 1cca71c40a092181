"""What any value is: an integer, a tuple of integers, letters of a field."""


def is_integer(thing):
    """Whether any value is an integer (a bool is none)."""
    return isinstance(thing, int) and not isinstance(thing, bool)


def is_integer_from(thing, low, high):
    """Whether any value is an integer from low to high."""
    return is_integer(thing) and low <= thing <= high


def are_integers(thing):
    """Whether any value is a tuple of integers."""
    return isinstance(thing, tuple) and all([is_integer(item) for item in thing])


def are_integers_from(thing, low, high):
    """Whether any value is a tuple of integers from low to high."""
    return isinstance(thing, tuple) and all([is_integer_from(item, low, high) for item in thing])


def are_letters(q, thing):
    """Whether any value is a tuple of letters of the field of q letters."""
    return are_integers_from(thing, 0, q - 1)


def is_row(q, n, thing):
    """Whether any value is a tuple of n letters of the field of q letters."""
    return are_letters(q, thing) and len(thing) == n


def is_two(thing):
    """Whether any value is a tuple of two items, as most papers are."""
    return isinstance(thing, tuple) and len(thing) == 2


def are_tuples(lengths, thing):
    """Whether any value is a tuple of tuples of these lengths."""
    if not isinstance(thing, tuple) or not all([isinstance(row, tuple) for row in thing]):
        return False
    return [len(row) for row in thing] == list(lengths)


def is_ascending(items):
    """Whether each of the items is less than the next one."""
    return all([items[at] < items[at + 1] for at in range(len(items) - 1)])
