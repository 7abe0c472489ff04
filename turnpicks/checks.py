"""What counts as a valid argument, and the error that an invalid one raises."""

from turnpicks.blocks import left_after, steps_in
from turnpicks.errors import InvalidCounts, InvalidCourse, InvalidKind, InvalidList, InvalidLists
from turnpicks.errors import InvalidNumber, InvalidPlayer, InvalidSequence, Mismatch

PLAYERS = ("A", "B")
MOST_KINDS = 60
MOST_BLOCKS = 200
MOST_LETTERS = 20
MOST_ROWS = 1000


def is_integer(value):
    """Returns whether the value is an integer; True and False are none."""
    return isinstance(value, int) and not isinstance(value, bool)


def is_kind(value, kinds):
    """Returns whether the value is one of so many kinds."""
    return is_integer(value) and 0 <= value < kinds


def is_bundle(value, kinds):
    """Returns whether the value is a bundle of so many kinds."""
    if not isinstance(value, tuple) or len(value) != kinds:
        return False
    return all(is_integer(many) and many >= 0 for many in value)


def is_counts(value):
    """Returns whether the value is counts."""
    return isinstance(value, tuple) and len(value) <= MOST_KINDS and is_bundle(value, len(value))


def is_list(value, kinds):
    """Returns whether the value is a list of so many kinds."""
    if not isinstance(value, tuple) or not all(is_kind(kind, kinds) for kind in value):
        return False
    return sorted(value) == list(range(kinds))


def is_player(value):
    """Returns whether the value is one of the two players."""
    return isinstance(value, str) and value in PLAYERS


def is_turns(value):
    """Returns whether the value is the string of a block."""
    if not isinstance(value, str) or not 1 <= len(value) <= MOST_LETTERS:
        return False
    return all(letter in PLAYERS for letter in value)


def is_times(value):
    """Returns whether the value tells how often a block is repeated."""
    return is_integer(value) and value >= 1


def is_block(value):
    """Returns whether the value is a block."""
    if not isinstance(value, tuple) or len(value) != 2:
        return False
    turns, times = value
    return is_turns(turns) and is_times(times)


def is_row(value, kinds):
    """Returns whether the value is a row of a course with items of so many kinds."""
    if not isinstance(value, tuple) or len(value) != 3:
        return False
    turns, picked, times = value
    if not is_turns(turns) or not isinstance(picked, tuple) or len(picked) != len(turns):
        return False
    return all(is_kind(kind, kinds) for kind in picked) and is_times(times)


def check_counts(counts):
    """Raises InvalidCounts if these are not counts."""
    if not is_counts(counts):
        raise InvalidCounts(counts)


def check_lists(lists, kinds):
    """Raises InvalidLists if these are not lists of so many kinds."""
    if not isinstance(lists, tuple) or len(lists) != 2:
        raise InvalidLists(-1)
    for index, ranking in enumerate(lists):
        if not is_list(ranking, kinds):
            raise InvalidLists(index)


def check_ranking(ranking, kinds):
    """Raises InvalidList if this is not a list of so many kinds."""
    if not is_list(ranking, kinds):
        raise InvalidList(ranking)


def check_sequence(sequence):
    """Raises InvalidSequence if this is not a sequence."""
    if not isinstance(sequence, (list, tuple)) or len(sequence) > MOST_BLOCKS:
        raise InvalidSequence(-1)
    for index, block in enumerate(sequence):
        if not is_block(block):
            raise InvalidSequence(index)


def check_player(player):
    """Raises InvalidPlayer if this is not a player."""
    if not is_player(player):
        raise InvalidPlayer(player)


def check_kind(kind, kinds):
    """Raises InvalidKind if this is not one of so many kinds."""
    if not is_kind(kind, kinds):
        raise InvalidKind(kind)


def check_course(course, kinds):
    """Raises InvalidCourse if this is not a course with items of so many kinds."""
    if not isinstance(course, list) or len(course) > MOST_ROWS:
        raise InvalidCourse(-1)
    for index, row in enumerate(course):
        if not is_row(row, kinds):
            raise InvalidCourse(index)


def check_number(number, name, least):
    """Raises InvalidNumber with the name of the argument if it is not an integer of at least this size."""
    if not is_integer(number) or number < least:
        raise InvalidNumber(name)


def check_enough_items(counts, sequence):
    """Raises Mismatch if a sequence has more picks than there are items."""
    if steps_in(sequence) > sum(counts):
        raise Mismatch("sequence")


def check_items_left(counts, course):
    """Raises InvalidCourse for the first row of a course that takes more items of a kind than are left."""
    left = list(counts)
    for index, row in enumerate(course):
        left = left_after(left, row)
        if min(left) < 0:
            raise InvalidCourse(index)


def check_game(counts, lists, sequence):
    """Raises what a function with just these arguments raises."""
    check_counts(counts)
    check_lists(lists, len(counts))
    check_sequence(sequence)
    check_enough_items(counts, sequence)
