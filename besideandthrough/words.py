"""The words of expressions and the parts that stand behind each of them."""

# A "part" is an expression, and "parts" are any number of expressions.
PARTS = {
    "pair": ("part", "part"),
    "first": ("part",),
    "second": ("part",),
    "sum": ("part", "part"),
    "mod": ("part", "number"),
    "same": ("part", "part"),
    "let": ("name", "part", "part"),
    "if": ("part", "part", "part"),
    "repeat": ("number", "name", "part", "part"),
    "try": ("name", "number", "part", "part"),
    "call": ("name", "parts"),
    "get": ("name",),
    "put": ("name", "part"),
    "look": ("name",),
    "note": ("name", "part"),
    "choose": ("number",),
    "draw": ("number", "number", "number"),
    "fail": ("name", "number"),
    "ask": ("name", "number"),
}


def parts_of(expression):
    """Returns the list of the expressions that are parts of an expression."""
    word, *rest = expression
    found = []
    for sort, part in zip(PARTS.get(word, ()), rest):
        if sort == "part":
            found.append(part)
        elif sort == "parts":
            found.extend(part)
    return found
