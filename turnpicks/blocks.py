"""Blocks and rows, gone through as wholes: `times` may be too large to go through the single steps.

A part is a pair (steps, times): a string or a list that is not empty, and how often it is repeated.
A block is such a part.
"""


def steps_in(parts):
    """Returns the number of steps of all parts together."""
    return sum(len(steps) * times for steps, times in parts)


def left_after(left, row):
    """Returns what a row of a course leaves of each kind; it is below 0 where the row takes too much."""
    _, kinds, times = row
    return [many - times * kinds.count(kind) for kind, many in enumerate(left)]


class Walk:
    """A place between the steps of a list of parts."""

    def __init__(self, parts):
        self.parts = list(parts)
        self.part = 0
        self.inside = 0

    def ended(self):
        """Returns whether no step is ahead."""
        return self.part == len(self.parts)

    def room(self):
        """Returns the number of steps that are ahead in the part."""
        steps, times = self.parts[self.part]
        return len(steps) * times - self.inside

    def period(self):
        """Returns the number of steps after which the part repeats itself."""
        steps, _ = self.parts[self.part]
        return len(steps)

    def ahead(self, many):
        """Returns the step behind the next `many` steps of the part."""
        steps, _ = self.parts[self.part]
        return steps[(self.inside + many) % len(steps)]

    def move(self, many):
        """Goes on by `many` steps, which are all ahead in the part."""
        if many < self.room():
            self.inside += many
        else:
            self.part += 1
            self.inside = 0


def first_unlike(one, other, many):
    """Returns the index of the first of the next `many` steps in which two walks differ, or None.

    Both walks have that many steps ahead in their parts.
    """
    # Two periodic texts that agree as far as both periods together agree for ever (Fine and Wilf).
    enough = min(many, one.period() + other.period())
    for index in range(enough):
        if one.ahead(index) != other.ahead(index):
            return index
    return None


def first_parting(one, other):
    """Returns the number of the first step that two lists of parts do not have in common, or None."""
    here = Walk(one)
    there = Walk(other)
    passed = 0
    while not here.ended() and not there.ended():
        many = min(here.room(), there.room())
        index = first_unlike(here, there, many)
        if index is not None:
            return passed + index + 1
        here.move(many)
        there.move(many)
        passed += many
    if here.ended() and there.ended():
        return None
    return passed + 1
