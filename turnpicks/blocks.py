"""Blocks, gone through as wholes: `times` may be too large to go through the single steps.

A part is a pair (steps, times): a string or a list that is not empty, and how often it is repeated.
A block is such a part.
"""


def steps_in(parts):
    """Returns the number of steps of all parts together."""
    return sum([len(steps) * times for steps, times in parts])


def backwards(sequence):
    """Returns the blocks of a sequence from its end to its start."""
    return [(turns[::-1], times) for turns, times in reversed(sequence)]


def turns_by(sequence, player, places):
    """Returns the number of turns that the player has among the first picks, for each of these numbers of picks.

    The numbers of picks do not fall.
    """
    found = []
    passed = 0
    own = 0
    for turns, times in sequence:
        if len(found) == len(places):
            return found
        share = turns.count(player)
        end = passed + len(turns) * times
        while len(found) < len(places) and places[len(found)] < end:
            whole, part = divmod(places[len(found)] - passed, len(turns))
            found.append(own + whole * share + turns[:part].count(player))
        passed = end
        own += share * times
    return found + [own] * (len(places) - len(found))


def times_by(sequence, player, numbers):
    """Returns the number of the pick that is the player's turn with this number, or None, for each of the numbers.

    The numbers do not fall.
    """
    found = []
    passed = 0
    own = 0
    for turns, times in sequence:
        if len(found) == len(numbers):
            return found
        share = turns.count(player)
        last = own + share * times
        while len(found) < len(numbers) and numbers[len(found)] <= last:
            whole, part = divmod(numbers[len(found)] - own - 1, share)
            found.append(passed + whole * len(turns) + places_of(turns, player)[part])
        passed += len(turns) * times
        own = last
    return found + [None] * (len(numbers) - len(found))


def places_of(turns, player):
    """Returns the numbers of the player's turns in the string of a block."""
    return [place for place, letter in enumerate(turns, start=1) if letter == player]


class Walk:
    """A place between the steps of a list of parts.

    `steps` are those of the part, the next one first, and `room` is how many are ahead in it: 0 at the end.
    """

    def __init__(self, parts):
        self.parts = parts
        self.entered = 0
        self.steps = ""
        self.room = 0
        self.enter()

    def enter(self):
        """Goes to the start of the next part, if there is one."""
        self.room = 0
        if self.entered < len(self.parts):
            steps, times = self.parts[self.entered]
            self.steps = steps
            self.room = len(steps) * times
            self.entered += 1

    def move(self, many):
        """Goes on by `many` steps, which are all ahead in the part."""
        if many == self.room:
            self.enter()
        else:
            self.room -= many
            inside = many % len(self.steps)
            self.steps = self.steps[inside:] + self.steps[:inside]


def first_unlike(one, other, many):
    """Returns the index of the first of `many` steps in which two repeated texts differ, or None."""
    if one == other:
        return None
    # Two periodic texts that agree as far as both periods together agree for ever (Fine and Wilf).
    enough = min(many, len(one) + len(other))
    here = (one * (enough // len(one) + 1))[:enough]
    there = (other * (enough // len(other) + 1))[:enough]
    if here == there:
        return None
    return [step == its for step, its in zip(here, there)].index(False)


def first_parting(one, other):
    """Returns the number of the first step that two lists of parts do not have in common, or None."""
    here = Walk(one)
    there = Walk(other)
    passed = 0
    while here.room > 0 and there.room > 0:
        many = min(here.room, there.room)
        index = first_unlike(here.steps, there.steps, many)
        if index is not None:
            return passed + index + 1
        here.move(many)
        there.move(many)
        passed += many
    if here.room == there.room:
        return None
    return passed + 1
