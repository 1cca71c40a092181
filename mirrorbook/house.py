"""A house of books, pairs and promises, in which no change is made that would break a promise."""

from mirrorbook.changes import is_change, state_after, state_after_all
from mirrorbook.compared import never_worse_holds
from mirrorbook.errors import BadChange, BadPromise, NothingToRedo, NothingToUndo, Unkept
from mirrorbook.housetexts import read_state, state_lines
from mirrorbook.promises import book_named, fault_of, first_unkept, is_promise, pair_named, return_of, thing_named
from mirrorbook.values import are_integers, is_integer, is_two


class House:
    """Names with the books and pairs that they stand for, the promises that are given, and the deals that were done."""

    def __init__(self):
        # No state is ever changed, so those ahead of deals and behind undone ones are just kept.
        self.state = ({}, ())
        self.done = []
        self.undone = []

    def __eq__(self, other):
        return isinstance(other, House) and self.state == other.state

    def __str__(self):
        return "\n".join(state_lines(*self.state))

    def copy(self):
        """An equal house with the same deals."""
        found = House()
        found.state = self.state
        found.done = list(self.done)
        found.undone = list(self.undone)
        return found

    @classmethod
    def read(cls, text):
        """The house of a text; an error names the first line that cannot stand."""
        found = cls()
        found.state = read_state(text)
        return found

    def names(self):
        """The ascending tuple of all names."""
        return tuple(sorted(list(self.state[0])))

    def kept(self, name):
        """The book or the pair that a name stands for."""
        return thing_named(self.state[0], name)

    def book(self, name):
        """The book that a name stands for."""
        return book_named(self.state[0], name)

    def pair(self, name):
        """The pair that a name stands for."""
        return pair_named(self.state[0], name)

    def promises(self):
        """The promises, in the order in which they were given."""
        return self.state[1]

    def deals(self):
        """The deals that were done, in their order."""
        return tuple([changes for changes, _ in self.done])

    def deal(self, changes):
        """Makes changes one after the other, if all promises are kept behind the last one."""
        self.enter(changes, state_after_all(self.state, changes))

    def change(self, change):
        """Does a deal of one change."""
        if not is_change(change):
            raise BadChange(0)
        self.enter((change,), state_after(self.state, change))

    def enter(self, changes, state):
        """Records a deal that leads to a state, if all promises are kept there."""
        unkept = first_unkept(*state)
        if unkept is not None:
            promise, fault = unkept
            raise Unkept(promise, fault)
        self.done.append((changes, self.state))
        self.undone = []
        self.state = state

    def would(self, changes):
        """The first promise that would not be kept behind a deal, with its fault, None if all would be kept."""
        state = state_after_all(self.state, changes)
        return first_unkept(*state)

    def undo(self):
        """Takes the last deal back."""
        if self.done == []:
            raise NothingToUndo()
        changes, before = self.done.pop()
        self.undone.append((changes, self.state))
        self.state = before

    def redo(self):
        """Does the deal again that was taken back last."""
        if self.undone == []:
            raise NothingToRedo()
        changes, behind = self.undone.pop()
        self.done.append((changes, self.state))
        self.state = behind

    def judged(self, promise):
        """Whether a promise is kept or would be, with its first fault if it is not."""
        things = self.state[0]
        if not is_promise(things, promise):
            raise BadPromise(promise)
        fault = fault_of(things, promise)
        return ("kept",) if fault is None else fault


def promise_fault_holds(house, promise, thing):
    """Whether any value is a fault of a promise, with any right number where one is asked for."""
    things = house.state[0]
    if not is_promise(things, promise):
        return False
    if promise[0] == "never worse":
        one, other = [return_of(things[name]) for name in promise[1:]]
        return is_two(thing) and never_worse_holds(one, other, thing)
    fault = fault_of(things, promise)
    if fault is None or thing != fault:
        return False
    # A value that is equal to a fault need not be one: True is equal to 1.
    return len(fault) == 1 or is_integer(thing[1]) or are_integers(thing[1])
