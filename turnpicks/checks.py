"""What counts as a valid argument, and the error that an invalid one raises."""

from turnpicks.blocks import steps_in
from turnpicks.errors import InvalidBundle, InvalidCounts, InvalidCourse, InvalidKind, InvalidList, InvalidLists
from turnpicks.errors import InvalidNumber, InvalidOpponent, InvalidPicks, InvalidPlayer, InvalidSequence
from turnpicks.errors import InvalidSharing, InvalidValues, Mismatch

PLAYERS = ("A", "B")
OPPONENTS = ("plain", "hostile", "thinking")
MOST_KINDS = 60
MOST_BLOCKS = 200
MOST_LETTERS = 20
MOST_ROWS = 1000
MOST_PICKS = 200


def is_integer(value):
    """Returns whether the value is an integer; True and False are none."""
    return isinstance(value, int) and not isinstance(value, bool)


def is_kind(value, kinds):
    """Returns whether the value is one of so many kinds."""
    return is_integer(value) and 0 <= value < kinds


def are_kinds(values, kinds):
    """Returns whether each of the values is one of so many kinds."""
    # This goes over each pick of each row of a course, so it calls nothing of its own.
    for value in values:
        if not isinstance(value, int) or not 0 <= value < kinds or value is True or value is False:
            return False
    return True


def is_bundle(value, kinds):
    """Returns whether the value is a bundle of so many kinds."""
    if not isinstance(value, tuple) or len(value) != kinds:
        return False
    return all(is_integer(many) and many >= 0 for many in value)


def is_counts(value):
    """Returns whether the value is counts."""
    return isinstance(value, tuple) and len(value) <= MOST_KINDS and is_bundle(value, len(value))


def is_list(value, kinds):
    """Returns whether the value is a list of so many kinds."""
    if not isinstance(value, tuple) or not are_kinds(value, kinds):
        return False
    return sorted(value) == list(range(kinds))


def kinds_in(value):
    """Returns how many kinds the value ranks if it is a list, however many these are."""
    return min(len(value), MOST_KINDS) if isinstance(value, tuple) else 0


def is_player(value):
    """Returns whether the value is one of the two players."""
    return isinstance(value, str) and value in PLAYERS


def is_repeated(turns, times):
    """Returns whether these are the string of a block and how often it is repeated."""
    if not isinstance(turns, str) or not 1 <= len(turns) <= MOST_LETTERS or turns.strip("AB") != "":
        return False
    return isinstance(times, int) and times >= 1 and times is not True


def is_block(value):
    """Returns whether the value is a block."""
    return isinstance(value, tuple) and len(value) == 2 and is_repeated(value[0], value[1])


def is_row(value, kinds):
    """Returns whether the value is a row of a course with items of so many kinds."""
    if not isinstance(value, tuple) or len(value) != 3:
        return False
    turns, picked, times = value
    if not is_repeated(turns, times) or not isinstance(picked, tuple) or len(picked) != len(turns):
        return False
    return are_kinds(picked, kinds)


def check_counts(counts):
    """Raises InvalidCounts if these are not counts."""
    if not is_counts(counts):
        raise InvalidCounts(counts)


def check_lists(lists, kinds):
    """Raises InvalidLists if these are not lists of so many kinds."""
    if not isinstance(lists, tuple) or len(lists) != 2:
        raise InvalidLists(-1)
    for index, ranking in enumerate(lists):
        if not is_list(ranking, kinds):
            raise InvalidLists(index)


def check_own_lists(lists):
    """Raises InvalidLists if these are not lists of as many kinds as the first one has."""
    check_lists(lists, kinds_in(lists[0]) if isinstance(lists, tuple) and len(lists) == 2 else 0)


def check_ranking(ranking, kinds):
    """Raises InvalidList if this is not a list of so many kinds."""
    if not is_list(ranking, kinds):
        raise InvalidList(ranking)


def check_sequence(sequence):
    """Raises InvalidSequence if this is not a sequence."""
    if not isinstance(sequence, (list, tuple)) or len(sequence) > MOST_BLOCKS:
        raise InvalidSequence(-1)
    for index, block in enumerate(sequence):
        if not is_block(block):
            raise InvalidSequence(index)


def check_player(player):
    """Raises InvalidPlayer if this is not a player."""
    if not is_player(player):
        raise InvalidPlayer(player)


def check_opponent(opponent):
    """Raises InvalidOpponent if this is not an opponent."""
    if not isinstance(opponent, str) or opponent not in OPPONENTS:
        raise InvalidOpponent(opponent)


def check_kind(kind, kinds):
    """Raises InvalidKind if this is not one of so many kinds."""
    if not is_kind(kind, kinds):
        raise InvalidKind(kind)


def check_course(course, kinds):
    """Raises InvalidCourse if this is not a course with items of so many kinds."""
    if not isinstance(course, list) or len(course) > MOST_ROWS:
        raise InvalidCourse(-1)
    for index, row in enumerate(course):
        if not is_row(row, kinds):
            raise InvalidCourse(index)


def check_picks(picks, counts, most):
    """Raises InvalidPicks if these are not at most so many picks of these items."""
    if not isinstance(picks, (list, tuple)) or len(picks) > min(MOST_PICKS, most):
        raise InvalidPicks(-1)
    left = list(counts)
    for index, kind in enumerate(picks):
        if not is_kind(kind, len(counts)) or left[kind] == 0:
            raise InvalidPicks(index)
        left[kind] -= 1


def check_number(number, name, least):
    """Raises InvalidNumber with the name of the argument if it is not an integer of at least this size."""
    if not is_integer(number) or number < least:
        raise InvalidNumber(name)


def check_enough_items(counts, sequence):
    """Raises Mismatch if a sequence has more picks than there are items."""
    if steps_in(sequence) > sum(counts):
        raise Mismatch("sequence")


def check_all_items(counts, sequence):
    """Raises Mismatch if a sequence does not have as many picks as there are items."""
    if steps_in(sequence) != sum(counts):
        raise Mismatch("sequence")


def check_game(counts, lists, sequence):
    """Raises what a function with just these arguments raises."""
    check_counts(counts)
    check_lists(lists, len(counts))
    check_sequence(sequence)
    check_enough_items(counts, sequence)


def check_side(counts, ranking, sequence, player):
    """Raises what a function with just these arguments raises ahead of Mismatch."""
    check_counts(counts)
    check_ranking(ranking, len(counts))
    check_sequence(sequence)
    check_player(player)


def part_fault(bundle, counts):
    """Returns the index of InvalidBundle for what should be a bundle of these items, or None."""
    if not is_bundle(bundle, len(counts)):
        return -1
    for kind, there in enumerate(counts):
        if bundle[kind] > there:
            return kind
    return None


def check_part(bundle, counts):
    """Raises InvalidBundle if this is not a bundle of these items."""
    fault = part_fault(bundle, counts)
    if fault is not None:
        raise InvalidBundle(fault)


def bundle_fault(bundle, counts, many):
    """Returns the index of InvalidBundle for what should be a bundle of so many of these items, or None."""
    fault = part_fault(bundle, counts)
    if fault is None and sum(bundle) != many:
        return len(counts)
    return fault


def check_bundle(bundle, counts, many):
    """Raises InvalidBundle if this is not a bundle of so many of these items."""
    fault = bundle_fault(bundle, counts, many)
    if fault is not None:
        raise InvalidBundle(fault)


def check_sharing(sharing, kinds):
    """Raises InvalidSharing if this is not a pair of bundles of so many kinds."""
    if not isinstance(sharing, tuple) or len(sharing) != 2:
        raise InvalidSharing(-1)
    for index, bundle in enumerate(sharing):
        if not is_bundle(bundle, kinds):
            raise InvalidSharing(index)


def integers_fault(values, many):
    """Returns the index of the first entry that is no integer, -1 if there are not so many entries, or None."""
    if not isinstance(values, (list, tuple)) or len(values) != many:
        return -1
    for index, value in enumerate(values):
        if not is_integer(value):
            return index
    return None


def check_wanted(wanted, kinds):
    """Raises InvalidBundle if this is not an integer for each prefix of a list of so many kinds."""
    fault = integers_fault(wanted, kinds)
    if fault is not None:
        raise InvalidBundle(fault)


def check_values(values, kinds):
    """Raises InvalidValues if this is not an integer for each of so many kinds."""
    fault = integers_fault(values, kinds)
    if fault is not None:
        raise InvalidValues(fault)


def is_falling(values, ranking):
    """Returns whether the values are integers >= 0 for the kinds of a list that fall along it."""
    if not is_bundle(values, len(ranking)):
        return False
    return all([values[kind] > values[behind] for kind, behind in zip(ranking, ranking[1:])])


def check_both_values(values, lists):
    """Raises InvalidValues if these are not values of both players that fall along their lists."""
    if not isinstance(values, tuple) or len(values) != 2:
        raise InvalidValues(-1)
    for index, ranking in enumerate(lists):
        if not is_falling(values[index], ranking):
            raise InvalidValues(index)
