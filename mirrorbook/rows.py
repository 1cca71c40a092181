"""Reduced rows and checks of tuples of letters that are known to be right."""

from mirrorbook.letters import letter_inverse, letter_negative, row_sum, row_support, row_times


def lead_of(row):
    """The first place with a letter that is not 0, of a row that has one."""
    return row_support(row)[0]


def end_of(row):
    """The last place with a letter that is not 0, of a row that has one."""
    return row_support(row)[-1]


def with_zero_at(q, place, row, head):
    """The row, less as many times head as makes its letter at the place 0; head has 1 there."""
    return row_sum(q, row, row_times(q, letter_negative(q, row[place]), head))


def reduced_rows(q, n, rows):
    """The reduced rows of the book of n places that these rows make."""
    left = list(rows)
    done = []
    for place in range(n):
        heads = [row for row in left if row[place] != 0]
        if heads:
            head = row_times(q, letter_inverse(q, heads[0][place]), heads[0])
            left = [with_zero_at(q, place, row, head) for row in left]
            done = [with_zero_at(q, place, row, head) for row in done]
            done.append(head)
    return tuple(done)


def check_rows(q, n, rows):
    """One check of the reduced rows for each place that is no lead, all of them independent."""
    leads = [lead_of(row) for row in rows]
    return tuple([check_at(q, n, rows, place) for place in range(n) if place not in leads])


def check_at(q, n, rows, place):
    """The check that has 1 at this place and elsewhere letters at leads alone."""
    letters = [0] * n
    letters[place] = 1
    for row in rows:
        letters[lead_of(row)] = letter_negative(q, row[place])
    return tuple(letters)


def sum_of_rows(q, n, amounts, rows):
    """The sum of the rows of n places times the amounts."""
    total = (0,) * n
    for amount, row in zip(amounts, rows):
        total = row_sum(q, total, row_times(q, amount, row))
    return total


def rows_with_unlike_ends(q, rows):
    """Rows that make the same book and have the same ascending leads as these ones, and no two the same end."""
    done = []
    for row in reversed(rows):
        left = row
        # What is added has later leads, so the lead stays; ends are cleared from the last one on for good.
        for head in sorted(done, key=end_of, reverse=True):
            left = with_zero_at(q, end_of(head), left, head)
        done.append(row_times(q, letter_inverse(q, left[end_of(left)]), left))
    return tuple(reversed(done))
