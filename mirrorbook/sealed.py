"""Messages that are sealed between a small and a big book, and what is heard of them at a set of places."""

from mirrorbook.books import Book, is_word
from mirrorbook.errors import BadWord
from mirrorbook.letters import row_difference, row_product
from mirrorbook.pairs import does_open
from mirrorbook.places import check_set, picked
from mirrorbook.rows import lead_of, reduced_rows, sum_of_rows
from mirrorbook.values import is_row, is_two


def is_message(pair, thing):
    """Whether any value is a message of the pair."""
    return is_row(pair.q, pair.length, thing)


def is_wish(pair, thing):
    """Whether any value is a wish: letters for a message that are not all 0."""
    return is_message(pair, thing) and thing != (0,) * pair.length


def check_message(pair, message):
    if not is_message(pair, message):
        raise BadWord(message)


def check_places_and_wish(pair, places, wish):
    check_set(pair.n, places)
    if not is_wish(pair, wish):
        raise BadWord(wish)


def check_word(pair, word):
    if not is_word(pair.big, word):
        raise BadWord(word)


def sealed(pair, message, noise):
    """The sealed word of a message and a noise."""
    check_message(pair, message)
    if not is_row(pair.q, pair.small.dimension, noise):
        raise BadWord(noise)
    return sum_of_rows(pair.q, pair.n, message + noise, pair.message_rows + pair.small.rows)


def message_of(pair, word):
    """The message of a word of the big book."""
    check_word(pair, word)
    return message_in(pair, word)


def noise_of(pair, word):
    """The noise of a word of the big book."""
    check_word(pair, word)
    return noise_in(pair, word)


def noise_in(pair, word):
    # A message row has 0 at each lead of the small book.
    return tuple([word[lead_of(row)] for row in pair.small.rows])


def message_in(pair, word):
    small = sum_of_rows(pair.q, pair.n, noise_in(pair, word), pair.small.rows)
    left = row_difference(pair.q, word, small)
    return tuple([left[lead_of(row)] for row in pair.message_rows])


def all_rows(pair):
    """Rows that make the big book, each with its message."""
    return [(row, message_in(pair, row)) for row in pair.message_rows + pair.small.rows]


def heard(pair, places, hearing):
    """The first message that may be behind a hearing, and rows of the differences of two such messages.

    None if no sealed word has the hearing.
    """
    check_set(pair.n, places)
    size = len(places)
    if not is_row(pair.q, size, hearing):
        raise BadWord(hearing)
    rows = [picked(row, places) + message for row, message in all_rows(pair)]
    # Reduced together, some rows have the leads of what is heard, and the other ones have messages behind zeros.
    reduced = reduced_rows(pair.q, size + pair.length, rows)
    ahead = [row for row in reduced if lead_of(row) < size]
    found = sum_of_rows(pair.q, size + pair.length, [hearing[lead_of(row)] for row in ahead], ahead)
    if found[:size] != hearing:
        return None
    # What is found has 0 at the leads of the other rows, so it is the first of its kind.
    return (found[size:], tuple([row[size:] for row in reduced[len(ahead) :]]))


def key_letters(pair, places, wish):
    """Letters at the places of a set that make a key for the wish, None if there is none."""
    size = len(places)
    rows = [picked(row, places) + (row_product(pair.q, message, wish),) for row, message in all_rows(pair)]
    reduced = reduced_rows(pair.q, size + 1, rows)
    # A wish is not all 0, so there is at least one row.
    if lead_of(reduced[-1]) == size:
        return None
    letters = [0] * size
    for row in reduced:
        letters[lead_of(row)] = row[size]
    return tuple(letters)


def key_for(pair, places, wish):
    """A key for the wish at the places of a set, None if there is none."""
    letters = key_letters(pair, places, wish)
    if letters is None:
        return None
    word = [0] * pair.n
    for place, letter in zip(places, letters):
        word[place] = letter
    return tuple(word)


def alibi_for(pair, places, wish):
    """An alibi for a wish that has no key at the places of a set."""
    size = len(places)
    rows = [picked(row, places) + (row_product(pair.q, message, wish),) + row for row, message in all_rows(pair)]
    # One of the reduced rows has zeros at the places, and behind them 1 for the letter that is wished for.
    found = [row for row in reduced_rows(pair.q, size + 1 + pair.n, rows) if lead_of(row) == size]
    return found[0][size + 1 :]


def judge_letter(pair, places, wish):
    """A paper: a key with which the letter that is wished for is heard, or an alibi."""
    check_places_and_wish(pair, places, wish)
    key = key_for(pair, places, wish)
    if key is not None:
        return ("key", key)
    return ("alibi", alibi_for(pair, places, wish))


def letter_holds(pair, places, wish, thing):
    """Whether any value is a right paper for a set and a wish."""
    check_places_and_wish(pair, places, wish)
    if not is_two(thing):
        return False
    kind, word = thing
    if kind == "key":
        return is_key(pair, places, wish, word)
    return kind == "alibi" and is_alibi(pair, places, wish, word)


def is_key(pair, places, wish, thing):
    """Whether any value is a word with zeros elsewhere whose product with each sealed word is what is wished for."""
    if not is_row(pair.q, pair.n, thing):
        return False
    if any([thing[place] != 0 for place in range(pair.n) if place not in places]):
        return False
    wanted = [row_product(pair.q, message, wish) for _, message in all_rows(pair)]
    return [row_product(pair.q, row, thing) for row, _ in all_rows(pair)] == wanted


def is_alibi(pair, places, wish, thing):
    """Whether any value is a word of the big book that has zeros at the places, but not for what is wished for."""
    if not is_word(pair.big, thing) or any([thing[place] != 0 for place in places]):
        return False
    return row_product(pair.q, message_in(pair, thing), wish) != 0


def opening(pair, places):
    """A key for each letter of the message, None if the set does not open the pair."""
    if not does_open(pair, places):
        return None
    wishes = [tuple([int(at == i) for at in range(pair.length)]) for i in range(pair.length)]
    return tuple([key_for(pair, places, wish) for wish in wishes])


def does_tell_apart(pair, places, one, other):
    """Whether no hearing of the set can come from both of two messages."""
    check_set(pair.n, places)
    check_message(pair, one)
    check_message(pair, other)
    # The messages behind zeros are the differences of the messages behind any hearing.
    _, rows = heard(pair, places, (0,) * len(places))
    return not is_word(Book(pair.q, pair.length, rows), row_difference(pair.q, one, other))
