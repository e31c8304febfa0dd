"""The errors that the program raises."""


class ScatterError(ValueError):
    """The base class of all errors of the program."""


class BadBook(ScatterError):
    """A value is no book: by the rule at index, or as a whole (None)."""

    def __init__(self, index):
        super().__init__(f"not a book (index of the rule: {index})")
        self.index = index


class BadWord(ScatterError):
    """A value is no word: by the letter at index, or as a whole (None)."""

    def __init__(self, index):
        super().__init__(f"not a word (index of the letter: {index})")
        self.index = index


class BadOrder(ScatterError):
    """A value is no tuple of all letters, each once."""


class BadCount(ScatterError):
    """A value is no length that is asked for."""


class NotEnding(ScatterError):
    """Some run goes on for ever."""


class NotOneRest(ScatterError):
    """Some word has more than one rest."""


class NotText(ScatterError):
    """A value is no string."""


class InvalidText(ScatterError):
    """A text names no book: place is the first character that cannot stand."""

    def __init__(self, place):
        super().__init__(f"the text cannot go on like this (place: {place})")
        self.place = place


class TooMany(ScatterError):
    """There would be more of something than most."""

    def __init__(self, most):
        super().__init__(f"more than {most}")
        self.most = most
