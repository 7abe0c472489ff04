"""What several test files need: values that are no arguments, and games written out pick by pick."""

import itertools
import random


class Strange:
    """An object that refuses everything but to be passed on."""

    __hash__ = None

    def refuse(self, *told):
        raise RuntimeError("this object refuses to be used")

    __eq__ = __ne__ = __lt__ = __le__ = __gt__ = __ge__ = refuse
    __len__ = __iter__ = __bool__ = __index__ = __int__ = __contains__ = __getitem__ = refuse


# One value of each kind that Python has, floats left out. Every one of them is wrong as every argument
# but the integers, the strings and the empty list or tuple: the tests leave those out where they are right.
OBJECTS = [
    None, True, False, 0, -1, 10 ** 5000, -(10 ** 5000), 1j, "", "A", "B", "C", "a", "AB", b"", b"A", bytearray(b"A"),
    [], [1], (), (1,), {}, {0: 1}, {1}, frozenset(), range(0), range(2), object(), Strange(), Strange, len, iter([]),
]


def same(one, other):
    """Whether it is the same object or an equal value of the same kind."""
    return one is other or (type(one) is type(other) and not isinstance(one, Strange) and one == other)


def objects_but(*right):
    """All of OBJECTS but those that are right here."""
    return [value for value in OBJECTS if not any(same(value, other) for other in right)]


def error_of(function, *told, **named):
    """The class of the error that the call raises and its attributes; (None, result) if it raises none."""
    try:
        result = function(*told, **named)
    except Exception as error:
        return type(error), vars(error)
    return None, result


def letters(sequence):
    """The turns of a sequence, one letter for each pick."""
    return "".join(turns * times for turns, times in sequence)


def single_picks(course):
    """The picks of a course, one pair of a player and a kind for each."""
    picks = []
    for turns, kinds, times in course:
        picks += list(zip(turns, kinds)) * times
    return picks


def slow_plain_picks(counts, lists, sequence):
    """The picks of a plain game, found pick by pick."""
    left = list(counts)
    picks = []
    for player in letters(sequence):
        kind = next(kind for kind in lists["AB".index(player)] if left[kind])
        left[kind] -= 1
        picks.append((player, kind))
    return picks


def slow_outcome(counts, picks):
    """The bundles of A and B and what is left, counted pick by pick."""
    bundles = {"A": [0] * len(counts), "B": [0] * len(counts)}
    left = list(counts)
    for player, kind in picks:
        bundles[player][kind] += 1
        left[kind] -= 1
    return tuple(bundles["A"]), tuple(bundles["B"]), tuple(left)


def slow_difference(one, other):
    """The number of the first place in which two strings or lists differ, or None."""
    for place in range(max(len(one), len(other))):
        if one[place:place + 1] != other[place:place + 1]:
            return place + 1
    return None


def some_sequence(chance, blocks, letters_in_block, times):
    """A sequence of at most so many blocks, strings of at most so many letters, and so many repeats."""
    return [
        ("".join(chance.choice("AB") for _ in range(chance.randint(1, letters_in_block))), chance.randint(1, times))
        for _ in range(chance.randint(0, blocks))
    ]


def some_list(chance, kinds):
    """A list of so many kinds."""
    ranking = list(range(kinds))
    chance.shuffle(ranking)
    return tuple(ranking)


def divided(chance, turns):
    """A sequence with these turns, given as a string, divided into blocks at any places."""
    sequence = []
    while turns:
        size = chance.randint(1, min(20, len(turns)))
        times = 1
        while turns.startswith(turns[:size] * (times + 1)) and chance.random() < 0.8:
            times += 1
        sequence.append((turns[:size], times))
        turns = turns[size * times:]
    return sequence


def chance_of(name):
    """A source of choices that are the same in every run."""
    return random.Random(name)


def some_turns(chance, picks, whole=False):
    """A sequence of so many picks, or, if it need not be whole, of at most so many."""
    sequence = []
    while picks and (whole or chance.random() < 0.9):
        size = chance.randint(1, min(6, picks))
        times = chance.randint(1, picks // size)
        sequence.append(("".join(chance.choice("AB") for _ in range(size)), times))
        picks -= size * times
    return sequence


def some_game(chance, most_kinds=5, most_items=9, whole=False):
    """Small counts, lists and a sequence that is not longer than the items last, or just as long if it is whole."""
    kinds = chance.randint(0, most_kinds)
    counts = tuple(chance.randint(0, most_items) for _ in range(kinds))
    lists = some_list(chance, kinds), some_list(chance, kinds)
    return counts, lists, some_turns(chance, sum(counts), whole)


def tiny_games(name, many, most_items=8, whole=False):
    """Games with so few items that all picks of both players can be gone through."""
    chance = chance_of(name)
    games = [((), ((), ()), []), ((0,), ((0,), (0,)), []), ((0, 2), ((0, 1), (1, 0)), [("BA", 1)])]
    while len(games) < many:
        game = some_game(chance, 4, 4, whole)
        if sum(game[0]) <= most_items:
            games.append(game)
    return games


def large_game(chance, digits, blocks=200):
    """A game with 60 kinds and 200 blocks that uses nearly all items."""
    counts = tuple(chance.randrange(10 ** chance.randint(1, digits)) for _ in range(60))
    lists = some_list(chance, 60), some_list(chance, 60)
    strings = ["".join(chance.choice("AB") for _ in range(chance.randint(1, 20))) for _ in range(blocks)]
    share = sum(counts) // blocks
    return counts, lists, [(string, share // len(string)) for string in strings]


def whole_game(chance, digits, blocks=200):
    """A game with 60 kinds and 200 blocks that uses all items."""
    counts, lists, sequence = large_game(chance, digits, blocks)
    picks = sum(len(turns) * times for turns, times in sequence)
    turns, times = sequence[0]
    return counts, lists, [("A", sum(counts) - picks + len(turns) * times)] + sequence[1:]


def many_games(name, digits=(6, 6, 30, 30, 300)):
    """Games at the bounds: 60 kinds and 200 blocks, with numbers of so many digits."""
    chance = chance_of(name)
    return [large_game(chance, many) for many in digits]


def check_course_form(case, counts, course):
    """The course is a list of at most 1000 rows."""
    case.assertIs(type(course), list)
    case.assertLessEqual(len(course), 1000)
    for row in course:
        case.assertIs(type(row), tuple)
        turns, kinds, times = row
        case.assertTrue(1 <= len(turns) <= 20 and set(turns) <= {"A", "B"})
        case.assertTrue(type(kinds) is tuple and len(kinds) == len(turns))
        case.assertTrue(all(type(kind) is int and 0 <= kind < len(counts) for kind in kinds))
        case.assertTrue(type(times) is int and times >= 1)


def all_bundles(counts, items):
    """All bundles of these items that hold so many."""
    return [bundle for bundle in itertools.product(*[range(many + 1) for many in counts]) if sum(bundle) == items]


def held(bundle, ranking, prefix):
    """The number of items that a bundle holds in a prefix of a list."""
    return sum(bundle[kind] for kind in ranking[:prefix])


def as_good(ranking, one, other):
    """Whether one bundle is at least as good as the other one for a list."""
    return all(held(one, ranking, prefix) >= held(other, ranking, prefix) for prefix in range(1, len(ranking) + 1))


def rival(player):
    """The other player."""
    return "BA"["AB".index(player)]


def less(counts, kind):
    """The counts without one item of the kind."""
    return counts[:kind] + (counts[kind] - 1,) + counts[kind + 1:]


def more(counts, kind):
    """The counts with one item of the kind more."""
    return counts[:kind] + (counts[kind] + 1,) + counts[kind + 1:]


def left_kinds(counts):
    """The kinds with items."""
    return [kind for kind, many in enumerate(counts) if many]
