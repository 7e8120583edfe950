"""Short rows of steps that the builders use: each returns the number of a row."""

READS = ("get", "look")


def is_read(web, node):
    """Returns True if the deed of a node is a get or a look, otherwise False."""
    return web.deed_of(node)[0] in READS


def chained(draft, *numbers):
    """Returns the row that leads as all these rows do, one behind the other."""
    found = numbers[0]
    for number in numbers[1:]:
        found = draft.join(found, number)
    return found


def shortened(draft, number):
    """Returns the like row instead of a row that leads back to its own left side."""
    if draft.left(number) == draft.right(number):
        return draft.like(draft.left(number))
    return number


def under(draft, node, refs):
    """Leads from a node to its deed over what the rows of its children lead to."""
    children = [draft.right(number) for number in refs]
    return draft.within(node, draft.web.make(draft.web.deed_of(node), children), refs)


def stepped(draft, word, node, deed, children):
    """Leads by one step from a node to the node with a deed and children."""
    return draft.by(word, node, draft.web.make(deed, children))


def swapped(draft, node):
    """Exchanges the deed of a node with the deed that all its children have."""
    web = draft.web
    deed = web.deed_of(node)
    children = web.children_of(node)
    rows = [web.children_of(child) for child in children]
    columns = [web.make(deed, column) for column in zip(*rows)]
    if not columns:
        return draft.by("swap", node, children[0])
    return stepped(draft, "swap", node, web.deed_of(children[0]), columns)


def read_first(draft, deed, node):
    """Leads from a node to a read with this deed, behind each way of which it stands."""
    many = draft.web.book.count_at(deed[1])
    read = draft.web.make(deed, [node] * many)
    return draft.turn(draft.by("idle", read, node))
