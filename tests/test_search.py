"""Stage 9: search_value, search_end, search_picks."""

import unittest

import wrong
from arguments import check_arguments, check_refused, check_steps, check_wrong
from helpers import chance_of, error_of, held, left_kinds, less, letters, more, rival, some_game, some_list
from turnpicks import search
from turnpicks.bundles import best_bundle
from turnpicks.errors import InvalidValues, Mismatch, TooLarge
from turnpicks.hostile import safe_picks, sure_counts
from turnpicks.search import search_end, search_picks, search_value
from turnpicks.thinking import best_first_picks, end_of
from turnpicks.turns import length, rest_of

BIG = 10 ** 30
HUGE = 10 ** 5000
UP = tuple(range(60))
DOWN = UP[::-1]
OPPONENTS = ("plain", "hostile", "thinking")

LISTS = (0, 1, 2), (0, 2, 1)
VALUES = (5, 3, 0), (4, 1, 2)
TEXT = (1, 1, 1), LISTS, VALUES, [("ABA", 1)]

RIGHT = {"counts": (2, 1), "lists": ((0, 1), (1, 0)), "values": ((5, 3), (1, 2)), "sequence": [("AB", 1), ("A", 1)]}
AHEAD = [
    ("counts", wrong.wrong_counts()), ("lists", wrong.wrong_lists()), ("values", wrong.wrong_both_values()),
    ("sequence", wrong.wrong_sequence()),
]
TOO_LONG = [("sequence", wrong.too_long(3))]
TOO_SHORT = [("sequence", [(sequence, Mismatch, "sequence") for sequence in ([], (), [("AB", 1)])])]


def falling_values(chance, ranking):
    """Values >= 0 that fall strictly along a list; the last one is often 0."""
    values = [0] * len(ranking)
    value = chance.choice([0, 0, 1, BIG])
    for kind in reversed(ranking):
        values[kind] = value
        value += chance.choice([1, 1, 1, 2, 30, BIG])
    return tuple(values)


def valued_games(name, many, whole=True, most_kinds=5):
    """Games with at most 8 items and values: counts, lists, values, sequence."""
    chance = chance_of(name)
    found = [((), ((), ()), ((), ()), []), ((0,), ((0,), (0,)), ((7,), (0,)), ())]
    while len(found) < many:
        counts, lists, sequence = some_game(chance, most_kinds, 3, whole)
        if sum(counts) <= 8 and (not whole or length(sequence) == sum(counts)):
            values = falling_values(chance, lists[0]), falling_values(chance, lists[1])
            found.append((counts, lists, values, sequence))
    return found


def opponents_of(counts, sequence):
    """The opponents that there can be."""
    return OPPONENTS if length(sequence) == sum(counts) else OPPONENTS[:2]


def worth(bundle, values):
    """The value of a bundle."""
    return sum(many * value for many, value in zip(bundle, values))


def slow_value(left, lists, values, turns, player, opponent):
    """The greatest value that the player reaches, by the words of the document, without any shortcut."""
    return slow_values(left, lists, values, turns, player, opponent)["AB".index(player)]


def slow_values(left, lists, values, turns, player, opponent):
    """The values of A and B that are reached."""
    if not turns:
        return [0, 0]
    own = "AB".index(turns[0])
    mine = "AB".index(player)
    reached = []
    for kind in left_kinds(left):
        rest = slow_values(less(left, kind), lists, values, turns[1:], player, opponent)
        rest[own] += values[own][kind]
        reached.append((kind, rest))
    if turns[0] == player or opponent == "thinking":
        return max((rest for _, rest in reached), key=lambda rest: rest[own])
    if opponent == "hostile":
        return min((rest for _, rest in reached), key=lambda rest: rest[mine])
    plain = next(kind for kind in lists[own] if left[kind])
    return dict(reached)[plain]


def slow_picks(counts, lists, values, turns, opponent):
    """The kinds with which the first player still reaches the value."""
    if not turns:
        return []
    own = "AB".index(turns[0])
    most = slow_value(counts, lists, values, turns, turns[0], opponent)
    return [kind for kind in left_kinds(counts) if most == values[own][kind]
            + slow_value(less(counts, kind), lists, values, turns[1:], turns[0], opponent)]


class TestSearchValue(unittest.TestCase):
    def test_examples(self):
        self.assertEqual(search_value(*TEXT, "A", "hostile"), 5)
        self.assertEqual(search_value(*TEXT, "A", "thinking"), 8)
        call = error_of(search_value, (1, 1, 1), LISTS, ((3, 5, 0), (4, 1, 2)), [], "A", "plain")
        self.assertEqual(call, (InvalidValues, {"index": 0}))

    def test_all_picks_of_small_games(self):
        games = [game for game in valued_games("value", 500, most_kinds=8) + valued_games("value of parts", 100, False)
                 if length(game[3]) <= 6]
        different = 0
        for counts, lists, values, sequence in games:
            for player in "AB":
                found = []
                for opponent in opponents_of(counts, sequence):
                    found.append(search_value(counts, lists, values, sequence, player, opponent))
                    wanted = slow_value(counts, lists, values, letters(sequence), player, opponent)
                    self.assertEqual(found[-1], wanted)
                different += len(set(found)) == 3
        self.assertGreater(different, 3)

    def test_edges(self):
        for opponent in OPPONENTS:
            self.assertEqual(search_value((), ((), ()), ((), ()), [], "A", opponent), 0)
            self.assertEqual(search_value((0, 0), ((0, 1), (1, 0)), ((2, 1), (0, 9)), (), "B", opponent), 0)
            self.assertEqual(search_value((0, 1), ((0, 1), (1, 0)), ((2, 1), (0, 9)), [("B", 1)], "B", opponent), 9)
            self.assertEqual(search_value((0, 1), ((0, 1), (1, 0)), ((2, 1), (0, 9)), [("B", 1)], "A", opponent), 0)
            self.assertEqual(search_value((8,), ((0,), (0,)), ((HUGE,), (0,)), [("AB", 4)], "A", opponent), 4 * HUGE)
            self.assertEqual(search_value((8,), ((0,), (0,)), ((HUGE,), (0,)), [("AB", 4)], "B", opponent), 0)
        for opponent in OPPONENTS[:2]:
            self.assertEqual(search_value((8,), ((0,), (0,)), ((3,), (4,)), [], "A", opponent), 0)
            self.assertEqual(search_value((3, 5), ((0, 1), (0, 1)), ((3, 0), (4, 1)), [("ABB", 1)], "B", opponent), 8)

    def test_60_kinds(self):
        chance = chance_of("60 kinds")
        for _ in range(10):
            counts = [0] * 60
            for _ in range(8):
                counts[chance.randrange(60)] += 1
            counts = tuple(counts)
            lists = some_list(chance, 60), some_list(chance, 60)
            values = falling_values(chance, lists[0]), falling_values(chance, lists[1])
            sequence = [(chance.choice("AB"), 1) for _ in range(8)]
            end = end_of(counts, lists, sequence)
            self.assertEqual(search_end(counts, lists, values, sequence), end)
            for own, player in enumerate("AB"):
                found = search_value(counts, lists, values, sequence, player, "thinking")
                self.assertEqual(found, worth(end[own], values[own]))
                bundle = best_bundle(counts, lists, sequence, player)
                found = search_value(counts, lists, values, sequence, player, "plain")
                self.assertEqual(found, worth(bundle, values[own]))

    def test_arguments(self):
        players = [("player", wrong.wrong_player()), ("opponent", wrong.wrong_opponent())]
        for opponent in OPPONENTS:
            right = {**RIGHT, "player": "B", "opponent": opponent}
            late = TOO_LONG + (TOO_SHORT if opponent == "thinking" else [])
            check_arguments(self, search_value, search, right, AHEAD + players + late)


class TestSearchEnd(unittest.TestCase):
    def test_example(self):
        self.assertEqual(search_end(*TEXT), ((1, 1, 0), (0, 0, 1)))

    def test_it_reaches_the_values_of_small_games(self):
        for counts, lists, values, sequence in valued_games("end", 120):
            if length(sequence) <= 6:
                found = search_end(counts, lists, values, sequence)
                self.assertEqual(tuple(map(sum, zip(*found))), counts)
                self.assertTrue(type(found) is type(found[0]) is type(found[1]) is tuple)
                wanted = slow_values(counts, lists, values, letters(sequence), "A", "thinking")
                self.assertEqual([worth(found[own], values[own]) for own in (0, 1)], wanted)

    def test_edges(self):
        self.assertEqual(search_end((), ((), ()), ((), ()), []), ((), ()))
        self.assertEqual(search_end((0, 0), ((0, 1), (1, 0)), ((2, 1), (0, 9)), ()), ((0, 0), (0, 0)))
        self.assertEqual(search_end((3, 5), ((0, 1), (1, 0)), ((HUGE, 0), (0, 1)), [("B", 8)]), ((0, 0), (3, 5)))
        self.assertEqual(search_end((4, 4), ((0, 1), (1, 0)), ((1, 0), (0, HUGE)), [("AB", 4)]), ((4, 0), (0, 4)))

    def test_arguments(self):
        check_arguments(self, search_end, search, RIGHT, AHEAD + TOO_LONG + TOO_SHORT)


class TestSearchPicks(unittest.TestCase):
    def test_example(self):
        self.assertEqual(search_picks(*TEXT, "hostile"), [0])

    def test_all_picks_of_small_games(self):
        games = [game for game in valued_games("picks", 150) + valued_games("picks of parts", 100, False)
                 if length(game[3]) <= 5]
        several = 0
        for counts, lists, values, sequence in games:
            for opponent in opponents_of(counts, sequence):
                found = search_picks(counts, lists, values, sequence, opponent)
                self.assertEqual(found, slow_picks(counts, lists, values, letters(sequence), opponent))
                several += len(found) > 1
        self.assertGreater(several, 50)

    def test_edges(self):
        for opponent in OPPONENTS:
            self.assertEqual(search_picks((), ((), ()), ((), ()), [], opponent), [])
            self.assertEqual(search_picks((0, 0), ((0, 1), (1, 0)), ((2, 1), (0, 9)), (), opponent), [])
            found = search_picks((3, 5), ((0, 1), (1, 0)), ((2, 1), (0, 9)), [("B", 8)], opponent)
            self.assertEqual(found, [0, 1])
            found = search_picks((1, 1), ((1, 0), (1, 0)), ((0, 1), (0, 1)), [("BA", 1)], opponent)
            self.assertEqual(found, [1])
        for opponent in OPPONENTS[:2]:
            self.assertEqual(search_picks((2, 2), ((0, 1), (1, 0)), ((2, 1), (0, 9)), [], opponent), [])

    def test_results_are_new(self):
        found = search_picks(*TEXT, "plain")
        before = list(found)
        found.append("more")
        self.assertEqual(search_picks(*TEXT, "plain"), before)

    def test_arguments(self):
        for opponent in OPPONENTS:
            right = {**RIGHT, "opponent": opponent}
            late = TOO_LONG + (TOO_SHORT if opponent == "thinking" else [])
            check_arguments(self, search_picks, search, right, AHEAD + [("opponent", wrong.wrong_opponent())] + late)


class TestEightItems(unittest.TestCase):
    def calls(self, counts, sequence, opponents=OPPONENTS):
        """The right arguments of each function, with these counts and this sequence."""
        right = {**RIGHT, "counts": counts, "sequence": sequence}
        found = [(search_end, right)] if "thinking" in opponents else []
        for opponent in opponents:
            found.append((search_picks, {**right, "opponent": opponent}))
            found += [(search_value, {**right, "player": player, "opponent": opponent}) for player in "AB"]
        return found

    def test_eight_are_right_and_nine_too_many(self):
        for function, right in self.calls((5, 3), [("ABBA", 2)]):
            self.assertIsNone(error_of(function, **right)[0])
        for counts in ((5, 4), (0, 9), (BIG, 0), (HUGE, HUGE)):
            for function, right in self.calls(counts, [("A", sum(counts))]):
                check_refused(self, function, right, TooLarge, 8)
            for sequence in ([], [("AB", 1)]):
                for function, right in self.calls(counts, sequence, OPPONENTS[:2]):
                    check_refused(self, function, right, TooLarge, 8)
                for function, right in self.calls(counts, sequence, OPPONENTS[2:]):
                    check_refused(self, function, right, Mismatch, "sequence")

    def test_all_other_errors_come_first(self):
        for function, right in self.calls((5, 4), [("AB", 4), ("A", 1)]):
            steps = AHEAD + [("player", wrong.wrong_player()), ("opponent", wrong.wrong_opponent())]
            steps = [step for step in steps if step[0] in right] + [("sequence", wrong.too_long(9))]
            last = [("sequence", [([("AB", 4), ("B", 1)], TooLarge, 8)])]
            check_wrong(self, function, right, steps + last)
            check_steps(self, function, right, steps + last)


class TestFacts(unittest.TestCase):
    """The facts of [9.4]."""

    def test_the_end_is_that_of_thinking_players(self):
        for counts, lists, values, sequence in valued_games("facts of the end", 500, most_kinds=8):
            self.assertEqual(search_end(counts, lists, values, sequence), end_of(counts, lists, sequence))

    def test_all_best_picks_lead_to_the_same_end(self):
        several = 0
        for counts, lists, values, sequence in valued_games("same end", 300, most_kinds=8):
            picks = search_picks(counts, lists, values, sequence, "thinking")
            self.assertEqual(picks, sorted(best_first_picks(counts, lists, sequence)))
            end = search_end(counts, lists, values, sequence)
            for kind in picks:
                own = "AB".index(sequence[0][0][0])
                after = list(search_end(less(counts, kind), lists, values, rest_of(sequence, 1)))
                after[own] = more(after[own], kind)
                self.assertEqual(tuple(after), end)
            several += len(picks) > 1
        self.assertGreater(several, 50)

    def test_plain_is_the_best_bundle(self):
        for counts, lists, values, sequence in valued_games("best", 200) + valued_games("best of parts", 200, False):
            for own, player in enumerate("AB"):
                bundle = best_bundle(counts, lists, sequence, player)
                found = search_value(counts, lists, values, sequence, player, "plain")
                self.assertEqual(found, worth(bundle, values[own]))

    def test_hostile_is_the_sum_over_the_prefixes(self):
        for counts, lists, values, sequence in valued_games("sure", 200) + valued_games("sure of parts", 200, False):
            for own, player in enumerate("AB"):
                along = [values[own][kind] for kind in lists[own]] + [0]
                sure = sure_counts(counts, lists[own], sequence, player)
                total = sum((along[at] - along[at + 1]) * sure[at] for at in range(len(counts)))
                self.assertEqual(search_value(counts, lists, values, sequence, player, "hostile"), total)

    def test_hostile_is_least_and_plain_is_most(self):
        for counts, lists, values, sequence in valued_games("least and most", 300, most_kinds=8):
            for player in "AB":
                plain, hostile, thinking = [search_value(counts, lists, values, sequence, player, opponent)
                                            for opponent in OPPONENTS]
                self.assertTrue(hostile <= thinking <= plain)

    def test_safe_picks_reach_the_value(self):
        for counts, lists, values, sequence in valued_games("safe", 200):
            if sequence:
                player = sequence[0][0][0]
                safe = safe_picks(counts, lists["AB".index(player)], sequence, player)
                self.assertLessEqual(set(safe), set(search_picks(counts, lists, values, sequence, "hostile")))

    def test_exchanged_players(self):
        exchange = str.maketrans("AB", "BA")
        for counts, lists, values, sequence in valued_games("exchanged", 100):
            other = tuple((turns.translate(exchange), times) for turns, times in sequence)
            for player in "AB":
                for opponent in OPPONENTS:
                    one = search_value(counts, lists, values, sequence, player, opponent)
                    two = search_value(counts, lists[::-1], values[::-1], other, rival(player), opponent)
                    self.assertEqual(one, two)

    def test_prefix_values(self):
        # With the value 1 for a prefix and next to nothing else, the value tells the items of the prefix.
        for counts, lists, _, sequence in valued_games("prefix values", 60):
            for own, player in enumerate("AB"):
                sure = sure_counts(counts, lists[own], sequence, player)
                for prefix in range(1, len(counts) + 1):
                    along = [BIG * (place < prefix) + len(counts) - place for place in range(len(counts))]
                    mine = tuple(along[lists[own].index(kind)] for kind in range(len(counts)))
                    its = tuple(len(counts) - lists[1 - own].index(kind) for kind in range(len(counts)))
                    values = (mine, its) if own == 0 else (its, mine)
                    found = search_value(counts, lists, values, sequence, player, "hostile")
                    self.assertEqual(found // BIG, sure[prefix - 1])
                    end = search_end(counts, lists, values, sequence)[own]
                    found = search_value(counts, lists, values, sequence, player, "thinking")
                    self.assertEqual(found // BIG, held(end, lists[own], prefix))


if __name__ == "__main__":
    unittest.main()
