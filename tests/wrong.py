"""Wrong arguments, each with the error that it raises: (value, error class, value of the error)."""

from helpers import OBJECTS, objects_but
from turnpicks.errors import InvalidBundle, InvalidCounts, InvalidCourse, InvalidKind, InvalidList, InvalidLists
from turnpicks.errors import InvalidNumber, InvalidOpponent, InvalidOrder, InvalidPicks, InvalidPlayer
from turnpicks.errors import InvalidSequence, InvalidSharing, InvalidValues, Misfit, Mismatch

GOOD = ("A", 1)


def wrong_counts():
    """Values that are no counts."""
    values = objects_but((), (1,)) + [
        [1, 1], (-1,), (1, -1), (True,), (1, False), (None,), ("1",), (1, []), ((1,),), (0,) * 61, (-1,) * 60,
        (10 ** 5000, -(10 ** 5000)),
    ]
    return [(value, InvalidCounts, value) for value in values]


def no_lists():
    """Values that are no list of two kinds."""
    return OBJECTS + [
        [0, 1], (0,), (0, 1, 2), (0, 0), (1, 1), (1, 2), (0, -1), (True, 0), (0, True), (False, True), ("0", "1"),
        (0, None), (0, []), ((0,), (1,)), (0, 10 ** 5000), {0, 1}, {0: 1, 1: 0}, range(2), "01",
    ]


def wrong_lists():
    """Values that are no lists of two kinds."""
    right = (0, 1)
    whole = OBJECTS + [[right, right], (right,), (right, right, right), {0: right, 1: right}]
    wrong = [(value, InvalidLists, -1) for value in whole]
    wrong += [((value, right), InvalidLists, 0) for value in no_lists()]
    wrong += [((right, value), InvalidLists, 1) for value in no_lists()]
    wrong += [((value, value), InvalidLists, 0) for value in no_lists()]
    return wrong


def wrong_ranking():
    """Values that are no list of two kinds, where one list is asked for."""
    return [(value, InvalidList, value) for value in no_lists()]


def wrong_turns():
    """Values that are no string of a block."""
    strings = ["A" * 21, "AB" * 11, "AC", "CA", "ab", "A B", "A\n", "A" * 20 + "C", "\u0391"]
    return objects_but("A", "B", "AB") + strings + [("A", "B")]


def wrong_times():
    """Values that do not tell how often a block is repeated."""
    return objects_but(10 ** 5000) + [0, -1, True, "1", (1,)]


def wrong_sequence():
    """Values that are no sequence."""
    blocks = [value for value in OBJECTS] + [["A", 1], ("A",), ("A", 1, 1), (1, "A"), "A1", {"A": 1}]
    blocks += [(turns, 1) for turns in wrong_turns()] + [("A", times) for times in wrong_times()]
    wrong = [(value, InvalidSequence, -1) for value in objects_but([], [1], (), (1,))]
    whole = [[GOOD] * 201, (GOOD,) * 201, [None] * 201, {GOOD}, {0: GOOD}, "AB", iter([GOOD])]
    wrong += [(value, InvalidSequence, -1) for value in whole]
    wrong += [([1], InvalidSequence, 0), ((1,), InvalidSequence, 0), (GOOD, InvalidSequence, 0)]
    wrong += [([GOOD] * 199 + [None], InvalidSequence, 199), ([GOOD] * 3 + [None] * 3, InvalidSequence, 3)]
    for block in blocks:
        wrong += [([block], InvalidSequence, 0), ([GOOD, block, GOOD, block], InvalidSequence, 1)]
        wrong += [((block,), InvalidSequence, 0), ((GOOD, GOOD, block), InvalidSequence, 2)]
    return wrong


def wrong_course():
    """Values that are no course with items of two kinds."""
    good = ("A", (0,), 1)
    rows = [value for value in OBJECTS] + [
        ["A", (0,), 1], ("A", (0,)), ("A", 1), ("A", (0,), 1, 1), ("A", 1, (0,)), ("A", [0], 1), ("A", (), 1),
        ("AB", (0,), 1), ("A", (0, 0), 1), ("A" * 21, (0,) * 21, 1), ("A", (2,), 1), ("A", (-1,), 1), ("A", (True,), 1),
        ("AB", (0, False), 1), ("AB", (0, None), 1), ("AB", (0, []), 1), ("AB", (0, "1"), 1), ("A", (10 ** 5000,), 1),
        ("A", "0", 1), ("A", {0}, 1), ("", (), 1),
    ]
    rows += [(turns, (0,), 1) for turns in wrong_turns()] + [("AC", (0, 0), 1), ("ab", (0, 0), 1)]
    rows += [("A", (0,), times) for times in wrong_times()] + [("A", kinds, 1) for kinds in objects_but((1,))]
    wrong = [(value, InvalidCourse, -1) for value in objects_but([], [1])]
    wrong += [([good] * 1001, InvalidCourse, -1), ((good,), InvalidCourse, -1), ([None] * 1001, InvalidCourse, -1)]
    wrong += [([1], InvalidCourse, 0), ([good, None, None], InvalidCourse, 1)]
    wrong += [([good] * 999 + [None], InvalidCourse, 999)]
    for row in rows:
        wrong += [([row], InvalidCourse, 0), ([good, row, good, row], InvalidCourse, 1)]
    return wrong


def wrong_player():
    """Values that are no player."""
    return [(value, InvalidPlayer, value) for value in objects_but("A", "B") + ["AA", "b", ("A",), ["A"], {"A"}]]


def wrong_number(name, least):
    """Values that are no integers of at least this size."""
    values = [value for value in OBJECTS if type(value) is not int or value < least]
    values += [least - 1, least - 10 ** 30, "1", (1,), [least]]
    return [(value, InvalidNumber, name) for value in values]


def wrong_kind():
    """Values that are none of two kinds."""
    values = objects_but(0) + [2, 60, -2, 10 ** 30, "0", (0,), [0], {0}]
    return [(value, InvalidKind, value) for value in values]


def too_long(picks):
    """A sequence of more than so many picks, where there are so many items."""
    sequences = [[("A", picks + 1)], (("B", picks), ("A", 1)), [("AB", 10 ** 5000)]]
    return [(sequence, Mismatch, "sequence") for sequence in sequences]


def wrong_bundle():
    """Values that are no bundle of one item, where there are two items of kind 0 and one of kind 1."""
    shapes = OBJECTS + [[1, 0], (1,), (1, 0, 0), ((1, 0),), "10", {0: 1, 1: 0}, range(2)]
    shapes += [(0, value) for value in objects_but(0, 10 ** 5000)] + [(-1, 2), (2, -1), (3, -1), (True, 0), (0, True)]
    wrong = [(value, InvalidBundle, -1) for value in shapes]
    wrong += [(value, InvalidBundle, 0) for value in [(3, 0), (3, 2), (10 ** 5000, 0), (3, 10 ** 5000)]]
    wrong += [(value, InvalidBundle, 1) for value in [(0, 2), (2, 2), (0, 10 ** 5000)]]
    wrong += [(value, InvalidBundle, 2) for value in [(0, 0), (1, 1), (2, 0), (2, 1)]]
    return wrong


def wrong_order():
    """Values that are no order of one pick, where there are two kinds."""
    good = (0, 1)
    runs = OBJECTS + [[0, 1], (0,), (0, 1, 1), "01", {0: 1}, ((0, 1),), (2, 1), (-1, 1), (True, 1), (False, 1)]
    runs += [("0", 1), (None, 1), ([], 1), (0, 0), (0, -1), (0, True), (0, None), (0, "1"), (0, []), (10 ** 5000, 1)]
    wrong = [(value, InvalidOrder, -1) for value in objects_but([], [1]) + [(good,), {good}, {0: 1}, range(2)]]
    for run in runs:
        wrong += [([run], InvalidOrder, 0), ([good, run, good, run], InvalidOrder, 1), ([run, None], InvalidOrder, 0)]
    wrong += [([], InvalidOrder, 0), ([good, good], InvalidOrder, 2), ([(1, 2)], InvalidOrder, 1)]
    wrong += [([(0, 10 ** 5000)], InvalidOrder, 1), ([good] * 300, InvalidOrder, 300)]
    wrong += [([(1, 9), (0, 3)], InvalidOrder, 2)]
    return wrong


def wrong_integers(error):
    """Values that are no list or tuple of two integers."""
    whole = OBJECTS + [[1], (1,), [1, 2, 3], (1, 2, 3), "12", {0: 1, 1: 2}, {1, 2}, range(2), iter([1, 2]), [None] * 3]
    wrong = [(value, error, -1) for value in whole]
    for value in [entry for entry in OBJECTS if type(entry) is not int] + ["1", [1], (1,)]:
        wrong += [([value, 1], error, 0), ((value, value), error, 0), ([-1, value], error, 1), ((0, value), error, 1)]
    return wrong


def wrong_values():
    """Values that are no values of two kinds."""
    return wrong_integers(InvalidValues)


def wrong_wanted():
    """Values that are no integers for two prefixes."""
    return wrong_integers(InvalidBundle)


def wrong_answer():
    """Answers that are wrong if of (2, 1) A can have (1, 0) and (0, 1), worth 5 and 7, and both caps are 1."""
    right = (7, (0, 1), [0, 7])
    shapes = OBJECTS + [list(right), right[:2], right + (1,), (7, [0, 1], [0, 7]), (7, (0, 1), (0, 7))]
    shapes += [((0, 1), 7, [0, 7])]
    shapes += [(value, (0, 1), [0, 7]) for value in OBJECTS if type(value) is not int]
    shapes += [(7, value, [0, 7]) for value in OBJECTS if type(value) is not tuple]
    shapes += [(7, (0, 1), value) for value in OBJECTS if type(value) is not list]
    bundles = [value for value in OBJECTS if type(value) is tuple]
    bundles += [(0, 1, 0), (0,), (0, True), (-1, 2), (2, -1), (0, None), (1, 1), (0, 0), (0, 2), (2, 0), (3, 0)]
    prices = [[], [7], [0, 7, 0], [0, None], [None, 7], [False, 7], [0, True], ["0", 7], [-1, 8], [-1, -7], [0, [7]]]
    bounds = [[0, 8], [0, 4], [1, 7], [0, -1], [7, 7], [0, 10 ** 5000], [0, -(10 ** 5000)], [10 ** 5000, 0]]
    wrong = [(value, Misfit, -1) for value in shapes]
    wrong += [((7, bundle, [0, 7]), Misfit, 0) for bundle in bundles] + [((8, (1, 1), []), Misfit, 0)]
    wrong += [((worth, (0, 1), [0, 7]), Misfit, 1) for worth in (0, 5, 6, 8, -7, 10 ** 5000)]
    wrong += [((7, (1, 0), [0, 7]), Misfit, 1), ((6, (0, 1), [None]), Misfit, 1)]
    wrong += [((7, (0, 1), value), Misfit, 2) for value in prices] + [((5, (1, 0), [-1, 0]), Misfit, 2)]
    wrong += [((7, (0, 1), value), Misfit, 3) for value in bounds] + [((5, (1, 0), [0, 7]), Misfit, 3)]
    return wrong


def no_lists_at_all():
    """Values that are no list of any number of kinds, or one of too many."""
    return objects_but(()) + [
        [0, 1], (0, 0), (1, 2), (0, -1), (True, 0), (0, True), (False,), ("0",), (0, None), ((0,),), {0: 0}, range(1),
        tuple(range(61)), tuple(range(62)), (0,) * 61,
    ]


def wrong_own_lists():
    """Values that are no lists of as many kinds as the first one has."""
    right = (0, 1)
    whole = OBJECTS + [[right, right], (right,), (right, right, right), {0: right, 1: right}]
    wrong = [(value, InvalidLists, -1) for value in whole]
    for value in no_lists_at_all():
        wrong += [((value, other), InvalidLists, 0) for other in (right, value, None)]
    wrong += [((right, value), InvalidLists, 1) for value in no_lists()]
    pairs = [((), (0,)), ((0,), ()), ((0,), right), (tuple(range(60)), tuple(range(61))), (tuple(range(60)), (0,) * 60)]
    return wrong + [(pair, InvalidLists, 1) for pair in pairs]


def wrong_own_ranking():
    """Values that are no list of any number of kinds, where one list is asked for."""
    return [(value, InvalidList, value) for value in no_lists_at_all()]


def no_bundles():
    """Values that are no bundle of two kinds."""
    shapes = OBJECTS + [[1, 0], (1,), (1, 0, 0), ((1, 0),), "10", {0: 1, 1: 0}, range(2), (-1, 2), (2, -1)]
    entries = objects_but(0, 10 ** 5000)
    return shapes + [(0, value) for value in entries] + [(value, 0) for value in entries]


def wrong_sharing():
    """Values that are no sharing of items of two kinds."""
    right = (1, 2)
    whole = OBJECTS + [[right, right], (right,), (right, right, right), {0: right, 1: right}]
    wrong = [(value, InvalidSharing, -1) for value in whole]
    for value in no_bundles():
        wrong += [((value, right), InvalidSharing, 0), ((right, value), InvalidSharing, 1)]
        wrong += [((value, value), InvalidSharing, 0)]
    return wrong


def wrong_compared(index):
    """Values that are no bundle of two kinds, where two are compared."""
    return [(value, InvalidBundle, index) for value in no_bundles()]


def wrong_part():
    """Values that are no bundle of items of which there are two of kind 0 and one of kind 1."""
    wrong = [(value, InvalidBundle, -1) for value in no_bundles()] + [((-1, 9), InvalidBundle, -1)]
    wrong += [(value, InvalidBundle, 0) for value in [(3, 0), (3, 2), (10 ** 5000, 0), (3, 10 ** 5000)]]
    return wrong + [(value, InvalidBundle, 1) for value in [(0, 2), (2, 2), (0, 10 ** 5000)]]


def wrong_opponent():
    """Values that are no opponent."""
    values = ["plai", "plainly", "Plain", "HOSTILE", "thinking ", b"plain", ("plain",), ["hostile"], {"plain"}]
    return [(value, InvalidOpponent, value) for value in OBJECTS + values]


def wrong_picks():
    """Values that are no picks if there are 200 items of kind 0 and 100 of kind 1, and the sequence has 4 picks."""
    whole = objects_but([], [1], (), (1,)) + [{0}, {0: 1}, "01", range(2), iter([0])]
    whole += [[0] * 201, (0,) * 300, [None] * 201]
    wrong = [(value, InvalidPicks, -1) for value in whole]
    for value in objects_but(0) + [2, -2, "0", (0,), [0], {0}]:
        wrong += [([value], InvalidPicks, 0), ((1, value, 0, value), InvalidPicks, 1)]
        wrong += [([0, 1, 0, value], InvalidPicks, 3)]
    return wrong


def wrong_both_values():
    """Values that are no values of two players with the lists (0, 1) and (1, 0)."""
    one = (5, 3)
    other = (1, 2)
    whole = OBJECTS + [[one, other], (one,), (one, other, other), {0: one, 1: other}]
    wrong = [(value, InvalidValues, -1) for value in whole]
    falling = [(5, 5), (0, 0), (-1, -2), (5, -1)] + [(value, 0) for value in objects_but(0, 10 ** 5000)]
    falling += [(5, value) for value in objects_but(0, 10 ** 5000)]
    for value in OBJECTS + [[5, 3], (5,), (5, 3, 1), ((5, 3),), "53", {0: 5, 1: 3}] + falling:
        wrong += [((value, other), InvalidValues, 0), ((value, value), InvalidValues, 0)]
    for value in OBJECTS + [[1, 2], (2,), (0, 1, 2), ((1, 2),), "12", {0: 1, 1: 2}] + [pair[::-1] for pair in falling]:
        wrong += [((one, value), InvalidValues, 1)]
    wrong += [(one, InvalidValues, 0), ((other, one), InvalidValues, 0), (((0, 1), other), InvalidValues, 0)]
    return wrong + [((one, (2, 1)), InvalidValues, 1), ((one, one), InvalidValues, 1)]
