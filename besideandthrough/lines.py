"""Reading the tokens of one line from the left."""

from besideandthrough.errors import TextError
from besideandthrough.tokens import is_name, tokens_of, whole_in


class Line:
    """The tokens of one line, and the place up to which they have been read."""

    def __init__(self, text, number):
        self.tokens = tokens_of(text, number)
        self.number = number
        self.place = 0

    def here(self):
        """Returns the next token, or an empty string if there is none."""
        if self.place < len(self.tokens):
            return self.tokens[self.place]
        return ""

    def need(self, good):
        """Refuses the next token, or the end of the line, unless it is good."""
        if not good:
            raise TextError(self.number, self.place + 1)

    def take(self, good):
        """Takes the next token if it is good, and refuses it otherwise."""
        token = self.here()
        self.need(good)
        self.place += 1
        return token

    def mark(self, sign):
        """Takes the next token, which must be the sign."""
        self.take(self.here() == sign)

    def whole(self, most):
        """Takes a number of at most this many digits."""
        number = whole_in(self.here(), most)
        self.take(number >= 0)
        return number

    def below(self, most, many):
        """Takes a number of at most this many digits that is less than another number."""
        number = whole_in(self.here(), most)
        self.take(0 <= number < many)
        return number

    def name(self):
        """Takes a name."""
        return self.take(is_name(self.here()))

    def finish(self):
        """Refuses any further token."""
        self.need(self.place == len(self.tokens))
