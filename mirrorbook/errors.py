"""The errors of the whole package."""


class BookError(Exception):
    """The base class of all errors of this package."""


class TooMany(BookError):
    """The tuple would have more items than most."""

    def __init__(self, most):
        super().__init__("the result has too many items")
        self.most = most


class BadText(BookError):
    """Line number line of a text cannot stand there; 0 if there is no text."""

    def __init__(self, line):
        super().__init__("a line of the text cannot stand where it stands")
        self.line = line


class BadField(BookError):
    def __init__(self, thing):
        super().__init__("a field has 2, 3, 4 or 5 letters")
        self.thing = thing


class BadLetter(BookError):
    def __init__(self, thing):
        super().__init__("this is not a letter that can stand here")
        self.thing = thing


class BadPlaces(BookError):
    def __init__(self, thing):
        super().__init__("there are from 1 to 8 places")
        self.thing = thing


class BadPlace(BookError):
    def __init__(self, thing):
        super().__init__("this is not a place that can stand here")
        self.thing = thing


class BadRows(BookError):
    """Row number is not a row; -1 if the rows are no tuple of at most 16 items."""

    def __init__(self, number):
        super().__init__("these are not rows of a book")
        self.number = number


class BadWord(BookError):
    def __init__(self, thing):
        super().__init__("this is not a word that can stand here")
        self.thing = thing


class BadStack(BookError):
    """Item number is not a word of the book; -1 if the stack is no tuple."""

    def __init__(self, number):
        super().__init__("this is not a stack of words of the book")
        self.number = number


class BadSet(BookError):
    def __init__(self, thing):
        super().__init__("this is not a set of places that can stand here")
        self.thing = thing


class BadNumber(BookError):
    def __init__(self, thing):
        super().__init__("this is not a number that can stand here")
        self.thing = thing


class BadTable(BookError):
    def __init__(self, thing):
        super().__init__("this is not a table of ranks")
        self.thing = thing


class BadOrder(BookError):
    def __init__(self, thing):
        super().__init__("this is not an order of the places")
        self.thing = thing


class OtherFields(BookError):
    """The two have unlike numbers of letters."""


class OtherPlaces(BookError):
    """The two have unlike numbers of places."""


class BadPolynomial(BookError):
    def __init__(self, thing):
        super().__init__("this is not a polynomial that can stand here")
        self.thing = thing


class BadCounts(BookError):
    def __init__(self, thing):
        super().__init__("these are not the counts of a table")
        self.thing = thing


class BadChance(BookError):
    def __init__(self, thing):
        super().__init__("these are not chances for the places")
        self.thing = thing


class BadReader(BookError):
    def __init__(self, thing):
        super().__init__("this is not a reader")
        self.thing = thing


class BadPair(BookError):
    def __init__(self, thing):
        super().__init__("a pair is made of two books")
        self.thing = thing


class NotWithin(BookError):
    """The word of the small book is not a word of the big one."""

    def __init__(self, word):
        super().__init__("the small book is not within the big one")
        self.word = word


class NoMessage(BookError):
    """The two books of a pair would have the same dimension."""


class BadQuestion(BookError):
    def __init__(self, thing):
        super().__init__("this is not a question that can stand here")
        self.thing = thing


class BadPaper(BookError):
    def __init__(self, thing):
        super().__init__("this is not a paper of the question")
        self.thing = thing


class BadName(BookError):
    def __init__(self, thing):
        super().__init__("a name has one to eight letters from a to z")
        self.thing = thing


class NoName(BookError):
    def __init__(self, name):
        super().__init__("nothing of this kind has this name")
        self.name = name


class NameTaken(BookError):
    def __init__(self, name):
        super().__init__("this name stands for something else")
        self.name = name


class InUse(BookError):
    def __init__(self, name):
        super().__init__("a promise has this name")
        self.name = name


class BadPromise(BookError):
    def __init__(self, thing):
        super().__init__("this is not a promise that can be given")
        self.thing = thing


class NoPromise(BookError):
    def __init__(self, thing):
        super().__init__("this promise is not given")
        self.thing = thing


class Unkept(BookError):
    """After a deal the promise would not be kept, as its fault shows."""

    def __init__(self, promise, fault):
        super().__init__("a promise would not be kept")
        self.promise = promise
        self.fault = fault


class NothingToUndo(BookError):
    """No deal was done that could be undone."""


class NothingToRedo(BookError):
    """No deal was undone that could be done again."""


class BadChange(BookError):
    """Change number of a deal cannot be made; -1 if the deal is no tuple."""

    def __init__(self, number):
        super().__init__("a change of the deal cannot be made")
        self.number = number


class InvalidCommand(BookError):
    """The line is not a command."""
