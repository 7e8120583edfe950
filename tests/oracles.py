"""Readers that only tell where a text breaks its form.

They are written apart from the program: each keeps a stack of what may come next
instead of calling itself, so that a fault of the program is not made twice.
"""

import re

WORD = r"[^ ()]+"


def is_number(token, most=3):
    return re.fullmatch(r"0|[1-9][0-9]{0,%d}" % (most - 1), token) is not None


def is_name(token):
    return re.fullmatch(r"[a-z]{1,6}", token) is not None


def split_line(line):
    return re.findall(r"\(|\)|" + WORD, line)


def keeps_form(line):
    """Tells whether a whole line keeps point [3]."""
    return joined(split_line(line)) == line


def joined(tokens):
    line = ""
    for token in tokens:
        glued = line == "" or line.endswith("(") or token == ")"
        line += token if glued else " " + token
    return line


def spacing_fault(line):
    """The token at which a line breaks point [3], or 0."""
    if keeps_form(line):
        return 0
    for end in range(1, len(line) + 1):
        if not keeps_form(line[:end]) and not keeps_form(line[:end] + "a"):
            return len(split_line(line[:end - 1])) + 1
    return len(split_line(line)) + 1


def value_fault(tokens, deepest=4):
    """The first token that cannot continue a value, counted from 1, or 0."""
    stack = [("value", deepest)]
    for at, token in enumerate(tokens):
        if not stack:
            return at + 1
        want, depth = stack.pop()
        if want == ")":
            good = token == ")"
        elif token == "(":
            good = depth > 0
            stack += [(")", 0), ("value", depth - 1), ("value", depth - 1)]
        else:
            good = is_number(token)
        if not good:
            return at + 1
    return len(tokens) + 1 if stack else 0


NODE_NUMBERS = {
    "fail": 2, "choose": 1, "draw": 3, "get": 1, "put": 2, "look": 1, "note": 2, "ask": 2,
}


def node_fault(tokens, index):
    """The first token that cannot stand in the line of a node, or 0."""
    if tokens[:1] == ["ret"]:
        at = value_fault(tokens[1:])
        return at + 1 if at else 0
    if not tokens or tokens[0] not in NODE_NUMBERS:
        return 1
    many = NODE_NUMBERS[tokens[0]]
    for at in range(1, len(tokens) + 1):
        token = tokens[at] if at < len(tokens) else ""
        if at <= many:
            good = is_number(token, 40)
        elif tokens[0] == "fail":
            good = token == ""
        elif at == many + 1:
            good = token == ":"
        elif token == "":
            good = at > many + 2
        else:
            good = is_number(token, 40) and int(token) < index
        if not good:
            return at + 1
    return 0


def web_fault(text):
    """The line and token at which the text of a web breaks its form, or None."""
    for index, line in enumerate(text.split("\n")):
        at = spacing_fault(line) or node_fault(split_line(line), index)
        if at:
            return index + 1, at
    return None


SHAPES = {
    "pair": "ee", "first": "e", "second": "e", "sum": "ee", "mod": "en", "same": "ee",
    "let": "xee", "if": "eee", "repeat": "nxee", "try": "xnee", "call": "x*",
    "get": "x", "put": "xe", "look": "x", "note": "xe", "choose": "n", "draw": "nnn",
    "fail": "xn", "ask": "xn",
}


def expression_fault(tokens):
    """The first token that cannot stand in an expression, or 0."""
    stack = ["e"]
    opened = 0
    for at, token in enumerate(tokens):
        if not stack:
            return at + 1
        want = stack.pop()
        if want == "*" and token == ")":
            want = ")"
            stack.pop()
        elif want == "*":
            stack.append("*")
            want = "e"
        if want == "e" and token == "(":
            opened += 1
            good = opened <= 24
            stack += [")", "word"]
        elif want == "e":
            good = is_name(token) or is_number(token)
        elif want == "word":
            good = token in SHAPES
            stack += list(reversed(SHAPES.get(token, "")))
        elif want == ")":
            opened -= 1
            good = token == ")"
        else:
            good = is_name(token) if want == "x" else is_number(token)
        if not good:
            return at + 1
    return len(tokens) + 1 if stack else 0


def head_fault(tokens, functions):
    """Reads the head of a function's line: the fault or 0, and how many tokens it has."""
    names = []
    stack = ["parameters", "function", "fun"]
    for at, token in enumerate(tokens):
        want, depth, least = (stack.pop(), 0, 0)
        if isinstance(want, tuple):
            want, depth, least = want
        if want == "fun":
            good = token == "fun" and len(functions) < 4
        elif want == "function":
            good = is_name(token) and token not in functions
        elif want == "parameters" and token == "=":
            return 0, at + 1
        elif want == "parameters":
            good = token == "(" and len(names) < 3
            stack += ["parameters", ")", ("kind", 4, 0), "parameter"]
        elif want == "parameter":
            good = is_name(token) and token not in names
            names.append(token)
        elif want == ")":
            good = token == ")"
        elif token == "(":
            good = depth > 0
            stack += [")", ("kind", depth - 1, 1), ("kind", depth - 1, 1)]
        else:
            good = is_number(token) and int(token) >= least
        if not good:
            return at + 1, 0
    return len(tokens) + 1, 0


def program_fault(text):
    """The line and token at which the text of a program breaks its form, or None."""
    functions = []
    done = False
    lines = text.split("\n")
    for index, line in enumerate(lines):
        at = spacing_fault(line)
        tokens = split_line(line)
        head = 2
        if not at and done:
            at = 1
        elif not at and tokens[:1] == ["main"]:
            done = True
            at = 0 if tokens[1:2] == ["="] else 2
        elif not at:
            at, head = head_fault(tokens, functions)
            functions += tokens[1:2]
        if not at:
            rest = expression_fault(tokens[head:])
            at = rest + head if rest else 0
        if at:
            return index + 1, at
    return None if done else (len(lines) + 1, 1)
