"""Whether a share point is a mixture of others, or what tells it from all of them."""

from math import gcd

from besideandthrough.points import listed_ends
from besideandthrough.shares import below, lowest, minus, plus, times, whole_numbers

NOTHING = (0, 1)
WHOLE = (1, 1)


def _numbers_over(ends, point):
    """Returns the list of the numbers that a share point has for ascending ends."""
    _, pairs = point
    found = []
    at = 0
    for end in ends:
        if at < len(pairs) and pairs[at][0] == end:
            found.append(pairs[at][1])
            at += 1
        else:
            found.append(0)
    return found


def _way_to(ends, point, other):
    """Returns other minus point, end by end, times the product of their dens."""
    here = _numbers_over(ends, point)
    there = _numbers_over(ends, other)
    return [new * point[0] - old * other[0] for old, new in zip(here, there)]


def _plain_bar(rows):
    """Returns a row with one number other than 0 against which all rows are, or []."""
    for at in range(len(rows[0])):
        column = [row[at] for row in rows]
        if max(column) < 0 or min(column) > 0:
            bar = [0] * len(rows[0])
            bar[at] = 1 if max(column) < 0 else -1
            return bar
    return []


def _dot(one, other):
    """Returns the sum of the products of the numbers of two rows."""
    return sum([a * b for a, b in zip(one, other)])


def _cleared(rows, at, last):
    """Returns equations with a column cleared in all rows but one, without fractions."""
    pivot = rows[at]
    found = []
    for index, row in enumerate(rows):
        if index == at:
            found.append(row)
        else:
            found.append([(pivot[at] * a - row[at] * b) // last for a, b in zip(row, pivot)])
    return found


def _solved(equations):
    """Returns the list of the fractions that solve equations; each ends with its right side."""
    rows = list(equations)
    last = 1
    for at in range(len(equations)):
        found = at
        while rows[found][at] == 0:
            found += 1
        rows[at], rows[found] = rows[found], rows[at]
        rows = _cleared(rows, at, last)
        last = rows[at][at]
    sign = 1 if last > 0 else -1
    return [lowest(sign * row[-1], sign * last) for row in rows]


def _aims(gram, inside):
    """Returns the weights of the mixture nearest to zero if they may be negative, too."""
    equations = [[1] * len(inside) + [0, 1]]
    for one in inside:
        equations.append([gram[one][other] for other in inside] + [1, 0])
    return _solved(equations)[:-1]


def _moved(weights, inside, aims):
    """Returns the weights that go toward their aims until the first one is used up."""
    step = WHOLE
    for one, aim in zip(inside, aims):
        if aim[0] < 0:
            num, den = weights[one]
            way = minus(weights[one], aim)
            end = lowest(num * way[1], den * way[0])
            step = end if below(end, step) else step
    moved = list(weights)
    for one, aim in zip(inside, aims):
        moved[one] = plus(weights[one], times(step, minus(aim, weights[one])))
    return moved


def _closer(gram, weights, new):
    """Returns the weights of a mixture closer to zero in which a new row may take part."""
    inside = [at for at in range(len(weights)) if at == new or weights[at] != NOTHING]
    while True:
        aims = _aims(gram, inside)
        weights = _moved(weights, inside, aims)
        if min([aim[0] for aim in aims]) >= 0:
            return weights
        inside = [at for at in inside if weights[at] != NOTHING]


def _balance(rows):
    """Returns weights of rows whose mixture is zero or has products above 0 with all rows.

    This goes on as long as a row leads closer to zero (Wolfe's way to the nearest point).
    Each round ends nearer to zero than the one before, and at the nearest mixture of some
    of the rows, so that there are finitely many rounds.
    """
    gram = [[_dot(one, other) for other in rows] for one in rows]
    squares = [gram[at][at] for at in range(len(rows))]
    weights = [NOTHING] * len(rows)
    weights[squares.index(min(squares))] = WHOLE
    while True:
        whole = whole_numbers(weights)
        products = [_dot(whole, line) for line in gram]
        if min(products) > 0 or not any(products):
            return whole
        weights = _closer(gram, weights, products.index(min(products)))


def _reduced(numbers):
    """Returns integers divided by their greatest common divisor."""
    common = 0
    for number in numbers:
        common = gcd(common, number)
    return [number // common for number in numbers]


def nearest(point, others):
    """Returns the weights of a mixture of others that is the share point, or a bar."""
    ends = listed_ends([point, *others])
    rows = [_way_to(ends, point, other) for other in others]
    bar = _plain_bar(rows)
    if not bar:
        whole = _balance(rows)
        mixed = [_dot(whole, [row[at] for row in rows]) for at in range(len(ends))]
        if not any(mixed):
            weights = _reduced([number * other[0] for number, other in zip(whole, others)])
            return "weights", sum(weights), tuple(weights)
        bar = _reduced([-number for number in mixed])
    return "bar", tuple([(end, number) for end, number in zip(ends, bar) if number != 0])
