"""Wrong arguments, each with the error that it raises: (value, error class, value of the error)."""

from helpers import OBJECTS, objects_but
from turnpicks.errors import InvalidCounts, InvalidCourse, InvalidLists, InvalidNumber, InvalidPlayer, InvalidSequence

GOOD = ("A", 1)


def wrong_counts():
    """Values that are no counts."""
    values = objects_but((), (1,)) + [
        [1, 1], (-1,), (1, -1), (True,), (1, False), (None,), ("1",), (1, []), ((1,),), (0,) * 61, (-1,) * 60,
        (10 ** 5000, -(10 ** 5000)),
    ]
    return [(value, InvalidCounts, value) for value in values]


def wrong_lists():
    """Values that are no lists of two kinds."""
    right = (0, 1)
    whole = OBJECTS + [[right, right], (right,), (right, right, right), {0: right, 1: right}]
    lists = OBJECTS + [
        [0, 1], (0,), (0, 1, 2), (0, 0), (1, 1), (1, 2), (0, -1), (True, 0), (0, True), (False, True), ("0", "1"),
        (0, None), (0, []), ((0,), (1,)), (0, 10 ** 5000), {0, 1}, {0: 1, 1: 0}, range(2), "01",
    ]
    wrong = [(value, InvalidLists, -1) for value in whole]
    wrong += [((value, right), InvalidLists, 0) for value in lists]
    wrong += [((right, value), InvalidLists, 1) for value in lists]
    wrong += [((value, value), InvalidLists, 0) for value in lists]
    return wrong


def wrong_turns():
    """Values that are no string of a block."""
    strings = ["A" * 21, "AB" * 11, "AC", "CA", "ab", "A B", "A\n", "A" * 20 + "C", "\u0391"]
    return objects_but("A", "B", "AB") + strings + [("A", "B")]


def wrong_times():
    """Values that do not tell how often a block is repeated."""
    return objects_but(10 ** 5000) + [0, -1, True, "1", (1,)]


def wrong_sequence():
    """Values that are no sequence."""
    blocks = [value for value in OBJECTS] + [["A", 1], ("A",), ("A", 1, 1), (1, "A"), "A1", {"A": 1}]
    blocks += [(turns, 1) for turns in wrong_turns()] + [("A", times) for times in wrong_times()]
    wrong = [(value, InvalidSequence, -1) for value in objects_but([], [1], (), (1,))]
    whole = [[GOOD] * 201, (GOOD,) * 201, [None] * 201, {GOOD}, {0: GOOD}, "AB", iter([GOOD])]
    wrong += [(value, InvalidSequence, -1) for value in whole]
    wrong += [([1], InvalidSequence, 0), ((1,), InvalidSequence, 0), (GOOD, InvalidSequence, 0)]
    wrong += [([GOOD] * 199 + [None], InvalidSequence, 199), ([GOOD] * 3 + [None] * 3, InvalidSequence, 3)]
    for block in blocks:
        wrong += [([block], InvalidSequence, 0), ([GOOD, block, GOOD, block], InvalidSequence, 1)]
        wrong += [((block,), InvalidSequence, 0), ((GOOD, GOOD, block), InvalidSequence, 2)]
    return wrong


def wrong_course():
    """Values that are no course with items of two kinds."""
    good = ("A", (0,), 1)
    rows = [value for value in OBJECTS] + [
        ["A", (0,), 1], ("A", (0,)), ("A", 1), ("A", (0,), 1, 1), ("A", 1, (0,)), ("A", [0], 1), ("A", (), 1),
        ("AB", (0,), 1), ("A", (0, 0), 1), ("A" * 21, (0,) * 21, 1), ("A", (2,), 1), ("A", (-1,), 1), ("A", (True,), 1),
        ("AB", (0, False), 1), ("AB", (0, None), 1), ("AB", (0, []), 1), ("AB", (0, "1"), 1), ("A", (10 ** 5000,), 1),
        ("A", "0", 1), ("A", {0}, 1), ("", (), 1),
    ]
    rows += [(turns, (0,), 1) for turns in wrong_turns()] + [("AC", (0, 0), 1), ("ab", (0, 0), 1)]
    rows += [("A", (0,), times) for times in wrong_times()] + [("A", kinds, 1) for kinds in objects_but((1,))]
    wrong = [(value, InvalidCourse, -1) for value in objects_but([], [1])]
    wrong += [([good] * 1001, InvalidCourse, -1), ((good,), InvalidCourse, -1), ([None] * 1001, InvalidCourse, -1)]
    wrong += [([1], InvalidCourse, 0), ([good, None, None], InvalidCourse, 1)]
    wrong += [([good] * 999 + [None], InvalidCourse, 999)]
    for row in rows:
        wrong += [([row], InvalidCourse, 0), ([good, row, good, row], InvalidCourse, 1)]
    return wrong


def wrong_player():
    """Values that are no player."""
    return [(value, InvalidPlayer, value) for value in objects_but("A", "B") + ["AA", "b", ("A",), ["A"], {"A"}]]


def wrong_number(name, least):
    """Values that are no integers of at least this size."""
    values = [value for value in OBJECTS if type(value) is not int or value < least]
    values += [least - 1, least - 10 ** 30, "1", (1,), [least]]
    return [(value, InvalidNumber, name) for value in values]
