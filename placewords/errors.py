"""The errors that the program raises."""


class PlaceError(ValueError):
    """The base class of all errors of the program."""


class InvalidAlphabet(PlaceError):
    """An alphabet, or a chart, has something that is refused."""


class InvalidAutomaton(PlaceError):
    """An automaton has something that is refused, or that is not there."""


class NotClosed(PlaceError):
    """A set does not have all words that are equivalent to its words."""


class NotConnected(PlaceError):
    """A set that is repeated has a word that is not connected."""


class TooLarge(PlaceError):
    """An automaton has too many states, or a set too many actions."""


class NotReady(PlaceError):
    """A letter or an event cannot be handled at this moment."""


class InvalidTeam(PlaceError):
    """A team has something that is refused, missing, or not there."""


class ExpressionSyntaxError(PlaceError):
    """A text is not the text of an expression; position tells where."""

    def __init__(self, position):
        super().__init__("this is not the text of an expression")
        self.position = position
