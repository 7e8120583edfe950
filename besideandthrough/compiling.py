"""Compiling programs for the machine."""

from besideandthrough.words import parts_of

LAYERED = ("get", "look", "put", "note", "ask", "fail")


def _let(coder, expression, names):
    _, name, bound, body = expression
    coder.write(bound, names)
    coder.add("bind")
    coder.write(body, (*names, name))
    coder.add("unbind")


def _if(coder, expression, names):
    _, test, one, other = expression
    coder.write(test, names)
    branch = coder.gap()
    coder.write(one, names)
    jump = coder.gap()
    coder.fill(branch, "branch", coder.here())
    coder.write(other, names)
    coder.fill(jump, "jump", coder.here())


def _repeat(coder, expression, names):
    _, many, name, bound, body = expression
    coder.write(bound, names)
    coder.add("count", many)
    again = coder.here()
    coder.add("bind")
    coder.write(body, (*names, name))
    coder.add("unbind")
    coder.add("again", again)


def _try(coder, expression, names):
    _, name, kind, first, other = expression
    start = coder.gap()
    coder.write(first, names)
    end = coder.gap()
    coder.fill(start, "try", coder.book.number_of(name), kind, coder.here())
    coder.write(other, names)
    coder.fill(end, "untry", coder.here())


# The words with instructions between the codes of their parts.
RULES = {"let": _let, "if": _if, "repeat": _repeat, "try": _try}


class Coder:
    """Writes a code from its beginning to its end."""

    def __init__(self, book):
        self.book = book
        self.rows = []
        self.begins = {}

    def here(self):
        """Returns the index of the instruction that comes next."""
        return len(self.rows)

    def add(self, *instruction):
        """Adds an instruction at the end."""
        self.rows.append(instruction)

    def gap(self):
        """Leaves room for an instruction at the end, and returns its index."""
        self.rows.append(())
        return len(self.rows) - 1

    def fill(self, at, *instruction):
        """Puts an instruction where room was left."""
        self.rows[at] = instruction

    def write(self, expression, names):
        """Adds the code of an expression under the names that are bound, the last one last."""
        word = expression[0]
        if word in RULES:
            rule = RULES[word]
            rule(self, expression, names)
        elif word == "var":
            self.add("load", names[::-1].index(expression[1]))
        else:
            for part in parts_of(expression):
                self.write(part, names)
            self.rows.append(self._instruction(expression))

    def _instruction(self, expression):
        """Returns the instruction that stands behind the codes of all parts."""
        word, *rest = expression
        if word == "num":
            return "push", rest[0]
        if word == "call":
            return word, self.begins[rest[0]], len(rest[1])
        if word in LAYERED:
            # The last part of put and note is an expression, and has its own code.
            numbers = [] if word in ("put", "note") else rest[1:]
            return word, self.book.number_of(rest[0]), *numbers
        return word, *[part for part in rest if isinstance(part, int)]

    def write_function(self, function):
        """Adds the code of a function."""
        name, parameters, body = function
        self.begins[name] = self.here()
        self.write(body, tuple([parameter[0] for parameter in parameters]))
        self.add("return", len(parameters))


def compiled(book, program):
    """Returns the code of a checked program of the book."""
    functions, expression = program
    coder = Coder(book)
    jump = coder.gap()
    for function in functions:
        coder.write_function(function)
    coder.fill(jump, "jump", coder.here())
    coder.write(expression, ())
    coder.add("done")
    return tuple(coder.rows)
