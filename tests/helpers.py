"""What several test files need: values that are no arguments, and games written out pick by pick."""

import random


class Strange:
    """An object that refuses everything but to be passed on."""

    __hash__ = None

    def refuse(self, *told):
        raise RuntimeError("this object refuses to be used")

    __eq__ = __ne__ = __lt__ = __le__ = __gt__ = __ge__ = refuse
    __len__ = __iter__ = __bool__ = __index__ = __int__ = __contains__ = __getitem__ = refuse


# One value of each kind that Python has, floats left out. Every one of them is wrong as every argument
# but the integers, the strings and the empty list or tuple: the tests leave those out where they are right.
OBJECTS = [
    None, True, False, 0, -1, 10 ** 5000, -(10 ** 5000), 1j, "", "A", "B", "C", "a", "AB", b"", b"A", bytearray(b"A"),
    [], [1], (), (1,), {}, {0: 1}, {1}, frozenset(), range(0), range(2), object(), Strange(), Strange, len, iter([]),
]


def same(one, other):
    """Whether it is the same object or an equal value of the same kind."""
    return one is other or (type(one) is type(other) and not isinstance(one, Strange) and one == other)


def objects_but(*right):
    """All of OBJECTS but those that are right here."""
    return [value for value in OBJECTS if not any(same(value, other) for other in right)]


def error_of(function, *told, **named):
    """The class of the error that the call raises and its attributes; (None, result) if it raises none."""
    try:
        result = function(*told, **named)
    except Exception as error:
        return type(error), vars(error)
    return None, result


def letters(sequence):
    """The turns of a sequence, one letter for each pick."""
    return "".join(turns * times for turns, times in sequence)


def single_picks(course):
    """The picks of a course, one pair of a player and a kind for each."""
    picks = []
    for turns, kinds, times in course:
        picks += list(zip(turns, kinds)) * times
    return picks


def slow_plain_picks(counts, lists, sequence):
    """The picks of a plain game, found pick by pick."""
    left = list(counts)
    picks = []
    for player in letters(sequence):
        kind = next(kind for kind in lists["AB".index(player)] if left[kind])
        left[kind] -= 1
        picks.append((player, kind))
    return picks


def slow_outcome(counts, picks):
    """The bundles of A and B and what is left, counted pick by pick."""
    bundles = {"A": [0] * len(counts), "B": [0] * len(counts)}
    left = list(counts)
    for player, kind in picks:
        bundles[player][kind] += 1
        left[kind] -= 1
    return tuple(bundles["A"]), tuple(bundles["B"]), tuple(left)


def slow_difference(one, other):
    """The number of the first place in which two strings or lists differ, or None."""
    for place in range(max(len(one), len(other))):
        if one[place:place + 1] != other[place:place + 1]:
            return place + 1
    return None


def some_sequence(chance, blocks, letters_in_block, times):
    """A sequence of at most so many blocks, strings of at most so many letters, and so many repeats."""
    return [
        ("".join(chance.choice("AB") for _ in range(chance.randint(1, letters_in_block))), chance.randint(1, times))
        for _ in range(chance.randint(0, blocks))
    ]


def some_list(chance, kinds):
    """A list of so many kinds."""
    ranking = list(range(kinds))
    chance.shuffle(ranking)
    return tuple(ranking)


def divided(chance, turns):
    """A sequence with these turns, given as a string, divided into blocks at any places."""
    sequence = []
    while turns:
        size = chance.randint(1, min(20, len(turns)))
        times = 1
        while turns.startswith(turns[:size] * (times + 1)) and chance.random() < 0.8:
            times += 1
        sequence.append((turns[:size], times))
        turns = turns[size * times:]
    return sequence


def chance_of(name):
    """A source of choices that are the same in every run."""
    return random.Random(name)
