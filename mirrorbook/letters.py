"""Letters of a field and tuples of them, for arguments that are known to be right."""

# Four letters are not the remainders of integers, so their products are listed.
FOUR_TIMES = ((0, 0, 0, 0), (0, 1, 2, 3), (0, 2, 3, 1), (0, 3, 1, 2))


def letter_sum(q, one, other):
    if q == 4:
        return one ^ other
    return (one + other) % q


def letter_negative(q, letter):
    """The letter whose sum with this one is 0."""
    if q == 4:
        return letter
    return (0 - letter) % q


def letter_times(q, one, other):
    if q == 4:
        return FOUR_TIMES[one][other]
    return (one * other) % q


def letter_inverse(q, letter):
    """The letter whose product with this one, which is not 0, is 1."""
    return [other for other in range(q) if letter_times(q, letter, other) == 1][0]


def row_sum(q, one, other):
    return tuple([letter_sum(q, left, right) for left, right in zip(one, other)])


def row_times(q, letter, row):
    return tuple([letter_times(q, letter, item) for item in row])


def row_difference(q, one, other):
    """The row whose sum with the other one is one."""
    return row_sum(q, one, row_times(q, letter_negative(q, 1), other))


def row_product(q, one, other):
    """The sum of the products of the letters, place by place."""
    total = 0
    for left, right in zip(one, other):
        total = letter_sum(q, total, letter_times(q, left, right))
    return total


def row_support(row):
    """The places with a letter that is not 0."""
    return tuple([place for place in range(len(row)) if row[place] != 0])


def letter_tuples(q, many):
    """All tuples of so many letters, ascending."""
    found = [()]
    for _ in range(many):
        found = [some + (letter,) for some in found for letter in range(q)]
    return found
