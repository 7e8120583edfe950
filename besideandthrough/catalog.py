"""Catalogs: numbers for the ends and bodies that occur within bodies."""


class Catalog:
    """Different ends and bodies, numbered from 0, those within others first.

    An end is kept with the numbers of its children instead of the bodies, and a body as
    a tuple of share points over the numbers of ends.
    """

    def __init__(self):
        self.ends = []
        self.bodies = []
        self.end_numbers = {}
        self.body_numbers = {}

    def number_of_end(self, end):
        """Returns the number of an end, which gets one if it has none."""
        if end[0] == "ask":
            parts = [tuple([self.number_of_body(body) for body in part]) for part in end[4]]
            end = (*end[:4], tuple(parts))
        if end not in self.end_numbers:
            self.end_numbers[end] = len(self.ends)
            self.ends.append(end)
        return self.end_numbers[end]

    def number_of_body(self, body):
        """Returns the number of a body, which gets one if it has none."""
        points = []
        for den, pairs in body:
            numbered = [(self.number_of_end(end), number) for end, number in pairs]
            points.append((den, tuple(sorted(numbered))))
        found = tuple(sorted(points))
        if found not in self.body_numbers:
            self.body_numbers[found] = len(self.bodies)
            self.bodies.append(found)
        return self.body_numbers[found]
