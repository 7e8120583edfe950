"""Share points: shares of ends."""

from math import gcd, lcm


def distinct(things):
    """Returns the list of things that can be compared, ascending, each once."""
    found = []
    for thing in sorted(things):
        if not found or found[-1] != thing:
            found.append(thing)
    return found


def listed_ends(points):
    """Returns the list of all ends that share points list, ascending, each once."""
    return distinct([end for _, pairs in points for end, _ in pairs])


def point_of(pairs):
    """Returns the share point of pairs of an end and a number, in any order."""
    ends = []
    numbers = []
    for end, number in sorted(pairs):
        if ends and ends[-1] == end:
            numbers[-1] += number
        else:
            ends.append(end)
            numbers.append(number)
    common = 0
    for number in numbers:
        common = gcd(common, number)
    numbers = [number // common for number in numbers]
    return sum(numbers), tuple(zip(ends, numbers))


def mixture(weights, points):
    """Returns the mixture of share points with a weight for each of them."""
    if len(points) == 1:
        return points[0]
    common = 1
    for den, _ in points:
        common = lcm(common, den)
    pairs = []
    for weight, (den, listed) in zip(weights, points):
        if weight > 0:
            scale = weight * (common // den)
            pairs.extend([(end, scale * number) for end, number in listed])
    return point_of(pairs)


def blend(a, b, one, other):
    """Returns the mixture of two share points with the weights a and b - a."""
    return mixture((a, b - a), (one, other))
