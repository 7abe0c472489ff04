"""Games in which both players pick plainly: always the best item left in the own list."""

from turnpicks.blocks import first_parting, left_after
from turnpicks.checks import PLAYERS, check_counts, check_course, check_enough_items, check_game
from turnpicks.checks import check_items_left, check_lists, check_sequence
from turnpicks.errors import InvalidCourse


def plain_game(counts, lists, sequence):
    """Returns the bundles of A and B after plain picks, and the bundle of what is left."""
    check_game(counts, lists, sequence)
    return outcome(counts, plain_rows(counts, lists, sequence))


def plain_course(counts, lists, sequence):
    """Returns a course with the picks of the plain game."""
    check_game(counts, lists, sequence)
    return plain_rows(counts, lists, sequence)


def play_course(counts, course):
    """Returns the bundles of A and B after the picks of a course, and the bundle of what is left."""
    check_counts(counts)
    check_course(course, len(counts))
    check_items_left(counts, course)
    return outcome(counts, course)


def check_plain(counts, lists, sequence, course):
    """Raises InvalidCourse for the first row of the course that leaves the plain game."""
    check_counts(counts)
    check_lists(lists, len(counts))
    check_sequence(sequence)
    check_course(course, len(counts))
    check_enough_items(counts, sequence)
    plain = plain_rows(counts, lists, sequence)
    number = first_parting(picks_of(plain), picks_of(course))
    if number is not None:
        raise InvalidCourse(row_with(course, number))


def plain_rows(counts, lists, sequence):
    """Returns the rows of the plain game of a sequence that is not longer than the items last."""
    left = list(counts)
    rows = []
    for turns, times in sequence:
        ahead = times
        while ahead > 0:
            row = next_row(left, lists, turns, ahead)
            rows.append(row)
            left = left_after(left, row)
            ahead -= row[2]
    return rows


def next_row(left, lists, turns, most):
    """Returns the row of the next rounds of the turns, at most so many, that have the same picks."""
    kinds = round_kinds(left, lists, turns)
    # A round in which a player changes the kind uses the old kind up, so this makes it a row of its
    # own. Any other round is repeated until a kind does not last for one more. Hence at most two rows
    # end early for each kind, and 200 blocks with 60 kinds make at most 320 rows.
    times = min([left[kind] // kinds.count(kind) for kind in kinds])
    return (turns, kinds, min(times, most))


def round_kinds(left, lists, turns):
    """Returns the kinds of the plain picks of one round of the turns."""
    rest = list(left)
    kinds = []
    for player in turns:
        kind = best_left(rest, lists[PLAYERS.index(player)])
        rest[kind] -= 1
        kinds.append(kind)
    return tuple(kinds)


def best_left(left, ranking):
    """Returns the first kind of a list of which items are left; there is one."""
    return [kind for kind in ranking if left[kind] > 0][0]


def outcome(counts, rows):
    """Returns the bundles of A and B, and what is left of the items, after the picks of these rows."""
    bundles = ([0] * len(counts), [0] * len(counts))
    left = list(counts)
    for row in rows:
        turns, kinds, times = row
        for player, kind in zip(turns, kinds):
            bundles[PLAYERS.index(player)][kind] += times
        left = left_after(left, row)
    return tuple(bundles[0]), tuple(bundles[1]), tuple(left)


def picks_of(rows):
    """Returns the parts whose steps are the picks of the rows: pairs of a player and a kind."""
    return [(list(zip(turns, kinds)), times) for turns, kinds, times in rows]


def row_with(rows, number):
    """Returns the index of the row with the pick of this number, or the number of rows if none has it."""
    ahead = number
    for index, (turns, _, times) in enumerate(rows):
        ahead -= len(turns) * times
        if ahead <= 0:
            return index
    return len(rows)
