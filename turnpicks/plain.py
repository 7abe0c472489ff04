"""Games in which both players pick plainly: always the best item left in the own list."""

from turnpicks.blocks import first_parting
from turnpicks.checks import check_counts, check_course, check_enough_items, check_game, check_lists, check_sequence
from turnpicks.errors import InvalidCourse
from turnpicks.game import Game


def plain_game(counts, lists, sequence):
    """Returns the bundles of A and B after plain picks, and the bundle of what is left."""
    check_game(counts, lists, sequence)
    game = Game(counts, lists)
    game.play(sequence)
    one, other = game.shared()
    return one, other, tuple(game.left)


def plain_course(counts, lists, sequence):
    """Returns a course with the picks of the plain game."""
    check_game(counts, lists, sequence)
    return Game(counts, lists).play(sequence)


def play_course(counts, course):
    """Returns the bundles of A and B after the picks of a course, and the bundle of what is left."""
    check_counts(counts)
    check_course(course, len(counts))
    one, other = bundles_of(course, len(counts))
    left = tuple([many - own - its for many, own, its in zip(counts, one, other)])
    if any([many < 0 for many in left]):
        raise InvalidCourse(first_excess(counts, course))
    return one, other, left


def check_plain(counts, lists, sequence, course):
    """Raises InvalidCourse for the first row of the course that leaves the plain game."""
    check_counts(counts)
    check_lists(lists, len(counts))
    check_sequence(sequence)
    check_course(course, len(counts))
    check_enough_items(counts, sequence)
    number = first_parting(sequence, [(turns, times) for turns, _, times in course])
    # The row with the first turn that is not of the sequence is wrong whatever its kinds are, so only
    # the rows ahead of it are left to be judged by their kinds, and these have enough items.
    index = len(course) if number is None else row_with(course, number)
    check_plain_kinds(Game(counts, lists), course[:index])
    if number is not None:
        raise InvalidCourse(index)


def check_plain_kinds(game, course):
    """Raises InvalidCourse for the first row of which a kind is not the plain pick of its turn."""
    for index, (turns, kinds, times) in enumerate(course):
        ahead = times
        while ahead > 0:
            row = game.next_row(turns, ahead)
            if row[1] != kinds:
                raise InvalidCourse(index)
            ahead -= row[2]


def bundles_of(course, kinds):
    """Returns the bundles of A and B after the picks of a course with items of so many kinds."""
    rounds = {}
    for turns, picked, times in course:
        rounds[turns, picked] = rounds.get((turns, picked), 0) + times
    bundles = {"A": [0] * kinds, "B": [0] * kinds}
    for (turns, picked), times in rounds.items():
        for player, kind in zip(turns, picked):
            bundles[player][kind] += times
    return tuple(bundles["A"]), tuple(bundles["B"])


def first_excess(counts, course):
    """Returns the index of the first row that takes more items of a kind than are left, or None."""
    left = list(counts)
    for index, (_, kinds, times) in enumerate(course):
        for kind in kinds:
            left[kind] -= times
            if left[kind] < 0:
                return index
    return None


def row_with(rows, number):
    """Returns the index of the row with the pick of this number, or the number of rows if none has it."""
    ahead = number
    for index, (turns, _, times) in enumerate(rows):
        ahead -= len(turns) * times
        if ahead <= 0:
            return index
    return len(rows)
