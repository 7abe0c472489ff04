"""What the picks of a player who picks plainly show of the player's list."""

from itertools import accumulate
from math import factorial

from turnpicks.checks import check_counts, check_course, check_player
from turnpicks.errors import InvalidCourse, Misfit
from turnpicks.plain import first_excess, row_with


class Forest:
    """The kinds, each with its parent or None: exactly those lists fit that have every kind behind its parent.

    `misfit` is the index of the first row with which no list fits, or None; all else holds only if it is None.
    `coming` are the kinds that the player may pick next.
    """

    def __init__(self, counts, course, player):
        check_counts(counts)
        check_course(course, len(counts))
        rounds = rounds_of(course)
        left = left_behind(counts, rounds)
        if any([many < 0 for many in left]):
            raise InvalidCourse(first_excess(counts, course))
        check_player(player)
        passed = [0] + list(accumulate([len(turns) * times for turns, _, times in course]))
        firsts = first_picks(rounds, passed, player)
        ends = last_picks(course, rounds, passed, left)
        self.misfit = first_misfit(course, firsts, ends)
        self.parents = parents_of(firsts, ends)
        self.coming = coming_kinds(left, firsts)

    def check(self):
        """Raises Misfit if no list fits."""
        if self.misfit is not None:
            raise Misfit(self.misfit)

    def line(self, kind):
        """Returns the kind, its parent, the parent's parent, and so on."""
        found = []
        above = kind
        while above is not None:
            found.append(above)
            above = self.parents[above]
        return found

    def subtree_sizes(self):
        """Returns the number of kinds in the subtree of each kind."""
        many = [0] * len(self.parents)
        for kind in range(len(self.parents)):
            for above in self.line(kind):
                many[above] += 1
        return many

    def list_total(self):
        """Returns the number of lists that fit."""
        found = factorial(len(self.parents))
        for size in self.subtree_sizes():
            found //= size
        return found

    def children(self, parent):
        """Returns the kinds that have this parent, or, with None, those that have no parent, in ascending order."""
        return [kind for kind, above in enumerate(self.parents) if above == parent]


class FittingLists:
    """The lists that fit and begin with the same kinds, in ascending order.

    There are `many` of them. `room` kinds are to follow in each, and the `ready` ones can be next.
    """

    def __init__(self, forest):
        self.forest = forest
        self.sizes = forest.subtree_sizes()
        self.many = forest.list_total()
        self.room = len(self.sizes)
        self.ready = forest.children(None)

    def kind_behind(self, number):
        """Returns the next kind of the list that has so many of the lists ahead of it."""
        # A kind is next in as large a share of the lists as its subtree has of the kinds that are to follow.
        share = number * self.room // self.many
        index = 0
        while share >= self.sizes[self.ready[index]]:
            share -= self.sizes[self.ready[index]]
            index += 1
        return self.ready[index]

    def go_on(self, kind):
        """Goes on to the lists that have this kind next, and returns how many were ahead of them."""
        lower = sum([self.sizes[other] for other in self.ready if other < kind])
        ahead = self.many * lower // self.room
        self.many = self.many * self.sizes[kind] // self.room
        self.room -= 1
        self.ready = sorted([other for other in self.ready if other != kind] + self.forest.children(kind))
        return ahead


def rounds_of(course):
    """Returns the different rounds (turns, kinds) of a course, in the order of the first rows that have them.

    Each comes with a list of three: the index of the first row, that of the last row, and how often it is played.
    """
    rounds = {}
    for index, (turns, kinds, times) in enumerate(course):
        rows = rounds.get((turns, kinds))
        if rows is None:
            rounds[turns, kinds] = [index, index, times]
        else:
            rows[1] = index
            rows[2] += times
    return rounds


def left_behind(counts, rounds):
    """Returns what is left behind the rounds; less than nothing where there are not enough items."""
    left = list(counts)
    for (_, kinds), rows in rounds.items():
        times = rows[2]
        for kind in kinds:
            left[kind] -= times
    return left


def first_picks(rounds, passed, player):
    """Returns the number of the player's first pick of each kind, in the order of these picks."""
    firsts = {}
    for (turns, kinds), rows in rounds.items():
        # Hardly any round has such a pick, and this tells so faster than going through its picks by number.
        if len([kind for turn, kind in zip(turns, kinds) if turn == player and kind not in firsts]) > 0:
            for number, (turn, kind) in enumerate(zip(turns, kinds), start=passed[rows[0]] + 1):
                if turn == player and kind not in firsts:
                    firsts[kind] = number
    return firsts


def last_picks(course, rounds, passed, left):
    """Returns the number of each kind's last pick: 0 if there is none, one more than all picks if items are left."""
    lasts = {}
    for last, kinds in sorted([(rows[1], kinds) for (_, kinds), rows in rounds.items()]):
        for kind in kinds:
            lasts[kind] = last
    ends = [passed[-1] + 1 if many > 0 else 0 for many in left]
    for kind, last in lasts.items():
        if left[kind] == 0:
            ends[kind] = passed[last + 1] - course[last][1][::-1].index(kind)
    return ends


def first_misfit(course, firsts, ends):
    """Returns the index of the first row in which the player passes over the kind picked before, or None."""
    kinds = list(firsts)
    for kind, behind in zip(kinds, kinds[1:]):
        if ends[kind] > firsts[behind]:
            return row_with(course, firsts[behind])
    return None


def parents_of(firsts, ends):
    """Returns the parent of each kind, or None."""
    # A kind stands behind all that the player picked while items of it were left, and the lowest of these is
    # the one that was picked last.
    parents = []
    for kind, end in enumerate(ends):
        above = [other for other in firsts if firsts[other] < end and other != kind]
        parents.append(above[-1] if len(above) > 0 else None)
    return parents


def coming_kinds(left, firsts):
    """Returns the kinds that the player may pick next, in ascending order."""
    kinds = [kind for kind, many in enumerate(left) if many > 0]
    last = list(firsts)[-1:]
    return last if len(last) > 0 and left[last[0]] > 0 else kinds
