"""Blocks, gone through as wholes: `times` may be too large to go through the single steps.

A part is a pair (steps, times): a string or a list that is not empty, and how often it is repeated.
A block is such a part.
"""

from itertools import accumulate


def steps_in(parts):
    """Returns the number of steps of all parts together."""
    return sum([len(steps) * times for steps, times in parts])


def backwards(sequence):
    """Returns the blocks of a sequence from its end to its start."""
    return [(turns[::-1], times) for turns, times in reversed(sequence)]


def turns_by(sequence, player, places):
    """Returns the number of turns that the player has among the first picks, for each of these numbers of picks.

    The numbers of picks do not fall.
    """
    found = []
    passed = 0
    own = 0
    for turns, times in sequence:
        if len(found) == len(places):
            return found
        share = turns.count(player)
        end = passed + len(turns) * times
        while len(found) < len(places) and places[len(found)] < end:
            whole, part = divmod(places[len(found)] - passed, len(turns))
            found.append(own + whole * share + turns[:part].count(player))
        passed = end
        own += share * times
    return found + [own] * (len(places) - len(found))


def times_by(sequence, player, numbers):
    """Returns the number of the pick that is the player's turn with this number, or None, for each of the numbers.

    The numbers do not fall.
    """
    found = []
    passed = 0
    own = 0
    for turns, times in sequence:
        if len(found) == len(numbers):
            return found
        share = turns.count(player)
        last = own + share * times
        while len(found) < len(numbers) and numbers[len(found)] <= last:
            whole, part = divmod(numbers[len(found)] - own - 1, share)
            found.append(passed + whole * len(turns) + places_of(turns, player)[part])
        passed += len(turns) * times
        own = last
    return found + [None] * (len(numbers) - len(found))


def places_of(turns, player):
    """Returns the numbers of the player's turns in the string of a block."""
    return [place for place, letter in enumerate(turns, start=1) if letter == player]


class Walk:
    """A place between the steps of a list of parts.

    `steps` are those of the part, the next one first, and `room` is how many are ahead in it: 0 at the end.
    """

    def __init__(self, parts):
        self.parts = parts
        self.entered = 0
        self.steps = ""
        self.room = 0
        self.enter()

    def enter(self):
        """Goes to the start of the next part, if there is one."""
        self.room = 0
        if self.entered < len(self.parts):
            steps, times = self.parts[self.entered]
            self.steps = steps
            self.room = len(steps) * times
            self.entered += 1

    def move(self, many):
        """Goes on by `many` steps, which are all ahead in the part."""
        if many == self.room:
            self.enter()
        else:
            self.room -= many
            inside = many % len(self.steps)
            self.steps = self.steps[inside:] + self.steps[:inside]

    def skip(self, many):
        """Goes on by `many` steps, or to the end."""
        ahead = many
        while ahead > 0 and self.room > 0:
            steps = min(ahead, self.room)
            self.move(steps)
            ahead -= steps

    def read(self, many):
        """Goes on by `many` steps, which are those of strings, or to the end, and returns them."""
        text = ""
        while len(text) < many and self.room > 0:
            steps = min(many - len(text), self.room)
            text += (self.steps * (steps // len(self.steps) + 1))[:steps]
            self.move(steps)
        return text


def first_unlike(one, other, many):
    """Returns the index of the first of `many` steps in which two repeated texts differ, or None."""
    if one == other:
        return None
    # Two periodic texts that agree as far as both periods together agree for ever (Fine and Wilf).
    enough = min(many, len(one) + len(other))
    here = (one * (enough // len(one) + 1))[:enough]
    there = (other * (enough // len(other) + 1))[:enough]
    if here == there:
        return None
    return [step == its for step, its in zip(here, there)].index(False)


def first_parting(one, other):
    """Returns the number of the first step that two lists of parts do not have in common, or None."""
    here = Walk(one)
    there = Walk(other)
    passed = 0
    while here.room > 0 and there.room > 0:
        many = min(here.room, there.room)
        index = first_unlike(here.steps, there.steps, many)
        if index is not None:
            return passed + index + 1
        here.move(many)
        there.move(many)
        passed += many
    if here.room == there.room:
        return None
    return passed + 1


def turns_behind(sequence, places, many):
    """Returns, for each of these numbers of picks, a string of the next turns behind them, at most so many.

    The numbers of picks do not fall.
    """
    walk = Walk(sequence)
    found = []
    text = ""
    start = 0
    passed = 0
    for place in places:
        # The text has the turns from behind `start` to `passed`, so it is begun anew where they end too early.
        if place > passed:
            walk.skip(place - passed)
            text = ""
            start = place
            passed = place
        text += walk.read(place + many - passed)
        passed = place + many
        found.append(text[place - start:passed - start])
    return found


class Turns:
    """The turns of a sequence, in which the next one of a player is found without going through those ahead of it."""

    def __init__(self, sequence):
        self.blocks = sequence
        self.starts = [0] + list(accumulate([len(turns) * times for turns, times in sequence]))

    def first_behind(self, player, passed):
        """Returns the number of the player's first turn behind so many picks, or one more than all picks."""
        index = self.block_behind(passed)
        inside = passed - self.starts[index]
        while index < len(self.blocks):
            turns, times = self.blocks[index]
            part = inside % len(turns)
            place = (turns + turns).find(player, part)
            number = inside - part + place + 1
            if place >= 0 and number <= len(turns) * times:
                return self.starts[index] + number
            index += 1
            inside = 0
        return self.starts[-1] + 1

    def block_behind(self, passed):
        """Returns the index of the block that has the first pick behind so many picks, or of the last block."""
        low = 0
        high = len(self.blocks)
        while low + 1 < high:
            middle = (low + high) // 2
            if self.starts[middle] <= passed:
                low = middle
            else:
                high = middle
        return low
