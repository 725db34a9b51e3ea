"""Expressions as texts."""

from placewords.errors import ExpressionSyntaxError

# How strongly the outermost sign of a text binds.
EITHER = 0
JOIN = 1
STAR = 2

DIGITS = "0123456789"
END = ""


def format_expression(expression):
    """Return the text of an expression."""
    return _text_of(expression, EITHER)


def _text_of(expression, strength):
    # An expression that binds less strongly than it must stands in parentheses.
    kind = expression[0]
    if kind == "none" or kind == "empty":
        return kind
    if kind == "letter":
        return str(expression[1])
    if kind == "star":
        return _text_of(expression[1], STAR) + "*"
    own, sign = (EITHER, " + ") if kind == "either" else (JOIN, " . ")
    text = _text_of(expression[1], own) + sign + _text_of(expression[2], own + 1)
    return "(" + text + ")" if own < strength else text


def parse_expression(text):
    """Return the expression that a text writes."""
    reader = Reader(text)
    expression = reader.read_either()
    if reader.token != END:
        raise ExpressionSyntaxError(reader.position)
    return expression


class Reader:
    """Reads a text token by token: token is the next one, END if there is none, and position is
    its index."""

    def __init__(self, text):
        self.text = text
        self.token = END
        self.position = 0
        self.behind = 0
        self.advance()

    def advance(self):
        """Go on to the next token."""
        at = self.behind
        while at < len(self.text) and self.text[at] == " ":
            at += 1
        self.position = at
        self.token = _token_at(self.text, at)
        self.behind = at + len(self.token)

    def read_either(self):
        """Read as many joins as there are with + between them."""
        found = self.read_join()
        while self.token == "+":
            self.advance()
            found = ("either", found, self.read_join())
        return found

    def read_join(self):
        """Read as many stars as there are with . between them."""
        found = self.read_star()
        while self.token == ".":
            self.advance()
            found = ("join", found, self.read_star())
        return found

    def read_star(self):
        """Read a letter, a word or parentheses, with all * behind it."""
        found = self.read_simple()
        while self.token == "*":
            self.advance()
            found = ("star", found)
        return found

    def read_simple(self):
        """Read a letter, a word or parentheses."""
        token = self.token
        if token == "(":
            self.advance()
            found = self.read_either()
            if self.token != ")":
                raise ExpressionSyntaxError(self.position)
        elif token == "none" or token == "empty":
            found = (token,)
        elif token != END and token in DIGITS:
            found = ("letter", int(token))
        else:
            raise ExpressionSyntaxError(self.position)
        self.advance()
        return found


def _token_at(text, at):
    if at == len(text):
        return END
    for word in ("none", "empty"):
        if text.startswith(word, at):
            return word
    return text[at]
