"""Commands of a console: lines of words, read as tuples."""

from mirrorbook.housetexts import is_digit, read_integer, read_promise
from mirrorbook.promises import is_name
from mirrorbook.ratios import is_chance

MOST_JOINED = 8
# For each command what its words behind the first one are.
FORMS = {
    "drop": ("name",),
    "rename": ("name", "name"),
    "row": ("name", "joined"),
    "check": ("name", "joined"),
    "place": ("name", "perhaps"),
    "without": ("name", "perhaps"),
    "fixed": ("name", "perhaps"),
    "repeat": ("name", "digit"),
    "turn": ("name", "joined", "joined"),
    "mirror": ("name",),
    "seal": ("name", "name", "name"),
    "share": ("name", "perhaps", "name"),
    "undo": (),
    "redo": (),
    "names": (),
    "show": ("name",),
    "ladder": ("name",),
    "weights": ("name", "digit"),
    "best": ("name",),
    "tells": ("name", "perhaps"),
    "chance": ("name", "chance"),
    "better": ("name", "name"),
}


def read_joined(word):
    """One to eight single digits that are joined by commas, None for other words."""
    parts = word.split(",")
    if len(parts) > MOST_JOINED or not all([is_digit(part) for part in parts]):
        return None
    return tuple([int(part) for part in parts])


def read_chance(word):
    """A chance with a top and a bottom of at most four digits, None for other words."""
    chance = tuple([read_integer(part) for part in word.split("/")])
    return chance if is_chance(chance) else None


def read_word(kind, word):
    """What a word of a command says, None if it is not of this kind."""
    if kind == "name":
        return word if is_name(word) else None
    if kind == "digit":
        return int(word) if is_digit(word) else None
    if kind == "chance":
        return read_chance(word)
    if kind == "perhaps" and word == "-":
        return ()
    return read_joined(word)


def read_words(kinds, words):
    """What the words of a command say, None if there are more or fewer, or one is not of its kind."""
    if len(words) != len(kinds):
        return None
    found = [read_word(kind, word) for kind, word in zip(kinds, words)]
    return tuple(found) if None not in found else None


def read_command(line):
    """The command of a line: its first word and what the other ones say; None for any value that is no command."""
    if not isinstance(line, str):
        return None
    words = line.split(" ")
    kind = words[0]
    if kind == "book":
        return read_book_command(words)
    if kind in ("promise", "release"):
        promise = read_promise(words[1:])
        return (kind, promise) if promise is not None else None
    if kind not in FORMS:
        return None
    said = read_words(FORMS[kind], words[1:])
    return (kind,) + said if said is not None else None


def read_book_command(words):
    """The name, the numbers of letters and of places, and the tuple of the rows."""
    ahead = read_words(("name", "digit", "digit"), words[1:4])
    rows = [read_joined(word) for word in words[4:]]
    if ahead is None or None in rows:
        return None
    return ("book",) + ahead + (tuple(rows),)
