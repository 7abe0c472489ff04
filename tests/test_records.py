"""Stage 7: Record with bundles, items_left, standings, losses and first_loss."""

import inspect
import unittest

import wrong
from arguments import check_call, check_refused, check_steps, check_wrong
from helpers import chance_of, error_of, held, left_kinds, less, letters, more, rival, some_game, some_list, whole_game
from turnpicks import records
from turnpicks.bundles import best_bundle
from turnpicks.errors import InvalidPicks, Mismatch, TooLarge
from turnpicks.hostile import safe_picks, sure_counts
from turnpicks.records import Record
from turnpicks.thinking import best_first_picks, end_of
from turnpicks.turns import length, rest_of

BIG = 10 ** 30
HUGE = 10 ** 5000
UP = tuple(range(60))
DOWN = UP[::-1]
OPPONENTS = ("plain", "hostile", "thinking")

TEXT = (1, 1, 1), ((0, 1, 2), (0, 2, 1)), [("ABA", 1)]
RIGHT = {"counts": (200, 100), "lists": ((0, 1), (1, 0)), "sequence": [("ABBA", 1)], "picks": [1, 0, 0]}
STEPS = [
    ("counts", wrong.wrong_counts()), ("lists", wrong.wrong_lists()), ("sequence", wrong.wrong_sequence()),
    ("picks", wrong.wrong_picks()), ("sequence", wrong.too_long(300)),
    ("sequence", [([("A", 1)] * 200, TooLarge, 199), ((("B", 1),) * 200, TooLarge, 199)]),
]


def some_picks(chance, counts, many, lists=None, turns=""):
    """So many picks of these items: any ones, or, where lists and turns are given, mostly plain ones."""
    left = list(counts)
    picks = []
    for at in range(many):
        kind = chance.choice(left_kinds(left))
        if lists is not None and chance.random() < 0.7:
            kind = next(kind for kind in lists["AB".index(turns[at])] if left[kind])
        left[kind] -= 1
        picks.append(kind)
    return picks


def small_records(name, many, whole=True):
    """Small games with picks: counts, lists, sequence, picks."""
    chance = chance_of(name)
    found = [((), ((), ()), [], []), ((0, 0), ((0, 1), (1, 0)), [], [])]
    while len(found) < many:
        counts, lists, sequence = some_game(chance, 6, 3, whole)
        turns = letters(sequence)
        if not whole or len(turns) == sum(counts):
            number = chance.choice([len(turns), chance.randint(0, len(turns))])
            picks = some_picks(chance, counts, number, chance.choice([None, lists]), turns)
            found.append((counts, lists, sequence, picks))
    return found


def filled(counts, sequence):
    """The sequence with turns of A at its end, so that all items are picked."""
    missing = sum(counts) - length(sequence)
    return sequence + [("A", missing)] if missing else sequence


def large_records(name):
    """Games with 60 kinds, up to 199 blocks and 200 picks, in which all items are picked."""
    chance = chance_of(name)
    games = [whole_game(chance, digits, 199) for digits in (6, 30)]
    counts = (BIG,) * 60
    games += [(counts, (UP, DOWN), filled(counts, [("AB" * 10, BIG // 100)] * 198))]
    games += [(counts, (UP, UP), filled(counts, [("ABBABAABBAABABBABAAB", BIG // 100)] * 198))]
    few = (5,) * 60
    lists = some_list(chance, 60), some_list(chance, 60)
    games += [(few, lists, filled(few, [("AB", 1), ("B", 1)] * 99))]
    games += [((4,) * 60, lists, [("ABBA" * 5, 12)]), ((1,) * 60, lists, [("B", 1), ("A", 1)] * 30)]
    found = []
    for counts, lists, sequence in games:
        found.append((counts, lists, sequence, some_picks(chance, counts, min(200, sum(counts)))))
    return found


def slow_standings(counts, lists, sequence, picks, player, opponent):
    """The standings by their words, each found anew with the functions of the stages before."""
    own = "AB".index(player)
    prefixes = range(1, len(counts) + 1)
    picked = (0,) * len(counts)
    left = counts
    found = []
    for at in range(len(picks) + 1):
        rest = rest_of(sequence, at)
        if opponent == "plain":
            bundle = best_bundle(left, lists, rest, player)
            gets = [held(bundle, lists[own], prefix) for prefix in prefixes]
        elif opponent == "hostile":
            gets = sure_counts(left, lists[own], rest, player)
        else:
            bundle = end_of(left, lists, rest)[own]
            gets = [held(bundle, lists[own], prefix) for prefix in prefixes]
        found.append(tuple(held(picked, lists[own], prefix) + many for prefix, many in zip(prefixes, gets)))
        if at < len(picks):
            left = less(left, picks[at])
            if rest[0][0][0] == player:
                picked = more(picked, picks[at])
    return found


def opponents_of(counts, sequence):
    """The opponents against whom there is a standing."""
    return OPPONENTS if length(sequence) == sum(counts) else OPPONENTS[:2]


def first_turns(sequence):
    """The first turns of a sequence, more than there are picks in a record; all of them if they are few."""
    return letters([(turns, min(times, 500)) for turns, times in sequence])[:500]


class TestRecord(unittest.TestCase):
    def test_example(self):
        self.assertEqual(error_of(Record, *TEXT, [1, 1]), (InvalidPicks, {"index": 1}))

    def test_names_and_place(self):
        self.assertEqual(Record.__module__, records.__name__)
        self.assertEqual(list(inspect.signature(Record).parameters), ["counts", "lists", "sequence", "picks"])
        for name in ("bundles", "items_left", "standings", "losses", "first_loss"):
            self.assertIn(name, vars(Record))

    def test_wrong_arguments(self):
        check_wrong(self, Record, RIGHT, STEPS)
        check_steps(self, Record, RIGHT, STEPS)

    def test_the_first_pick_without_an_item(self):
        lists = (0, 1), (1, 0)
        for picks, index in (([0, 0, 0], 2), ([1, 1, None], 1), ((0, 1, 0, 1), 3), ([0, 2, 1, 1], 1)):
            self.assertEqual(error_of(Record, (2, 1), lists, [("AB", 9)], picks), (InvalidPicks, {"index": index}))
        self.assertEqual(error_of(Record, (0, 1), lists, [("A", 1)], [0]), (InvalidPicks, {"index": 0}))
        self.assertEqual(error_of(Record, (), ((), ()), [("A", 1)], [0]), (InvalidPicks, {"index": 0}))

    def test_no_more_picks_than_the_sequence_has(self):
        lists = (0, 1), (1, 0)
        for picks in ([0, 0, 0], (9, 9, 9), [None] * 200):
            self.assertEqual(error_of(Record, (5, 5), lists, [("AB", 1)], picks), (InvalidPicks, {"index": -1}))
        self.assertEqual(Record((5, 5), lists, [("AB", 1)], [0, 0]).items_left(), (3, 5))

    def test_200_picks_and_no_more(self):
        for form in (list, tuple):
            record = Record((BIG,), ((0,), (0,)), [("AB", 1000)], form([0] * 200))
            self.assertEqual(record.bundles(), ((100,), (100,)))
            call = error_of(Record, (BIG,), ((0,), (0,)), [("AB", 1000)], form([0] * 201))
            self.assertEqual(call, (InvalidPicks, {"index": -1}))

    def test_199_blocks_and_no_more(self):
        sequence = [("AB", BIG)] * 200
        for picks in ([], [0] * 200, (0,)):
            record = Record((400 * BIG,), ((0,), (0,)), sequence[1:], picks)
            self.assertEqual(record.items_left(), (400 * BIG - len(picks),))
            call = error_of(Record, (400 * BIG,), ((0,), (0,)), sequence, picks)
            self.assertEqual(call, (TooLarge, {"limit": 199}))
            call = error_of(Record, (400 * BIG - 1,), ((0,), (0,)), sequence, picks)
            self.assertEqual(call, (Mismatch, {"name": "sequence"}))

    def test_it_copies_its_arguments_and_never_changes(self):
        for form in (list, tuple):
            sequence = [("AB", 1), ("A", 1)]
            picks = [1, 0]
            record = Record((2, 1), ((0, 1), (1, 0)), form(sequence), form(picks))
            mine = Record((2, 1), ((0, 1), (1, 0)), sequence, picks)
            sequence[0] = ("BB", 1)
            sequence.pop()
            picks[0] = 0
            picks.clear()
            for _ in range(2):
                self.assertEqual(mine.bundles(), record.bundles())
                self.assertEqual(mine.items_left(), (1, 0))
                for player in "AB":
                    for opponent in OPPONENTS:
                        found = mine.standings(player, opponent)
                        self.assertEqual(found, record.standings(player, opponent))
                        found.clear()
                        losses = mine.losses(player, opponent)
                        self.assertEqual(losses, record.losses(player, opponent))
                        losses.append("more")
                        self.assertEqual(mine.first_loss(player, opponent), record.first_loss(player, opponent))

    def test_arguments_stay(self):
        for name in ("sequence", "picks"):
            for form in (list, tuple):
                named = {**RIGHT, name: form(RIGHT[name])}
                before = {key: list(value) for key, value in named.items()}
                record = Record(**named)
                for player in "AB":
                    record.standings(player, "plain")
                    record.losses(player, "hostile")
                self.assertEqual({key: list(value) for key, value in named.items()}, before)


class TestBundlesAndItemsLeft(unittest.TestCase):
    def test_examples(self):
        game = Record(*TEXT, [1, 0])
        self.assertEqual(game.bundles(), ((0, 1, 0), (1, 0, 0)))
        self.assertEqual(game.items_left(), (0, 0, 1))

    def test_single_picks(self):
        for counts, lists, sequence, picks in small_records("single", 300, False):
            record = Record(counts, lists, sequence, picks)
            turns = letters(sequence)
            for own, player in enumerate("AB"):
                mine = [kind for turn, kind in zip(turns, picks) if turn == player]
                bundle = tuple(mine.count(kind) for kind in range(len(counts)))
                self.assertEqual(record.bundles()[own], bundle)
            left = tuple(many - picks.count(kind) for kind, many in enumerate(counts))
            self.assertEqual(record.items_left(), left)
            self.assertIs(type(record.bundles()), tuple)
            self.assertTrue(all(type(part) is tuple for part in (*record.bundles(), record.items_left())))

    def test_large_records(self):
        for counts, lists, sequence, picks in large_records("large bundles"):
            record = Record(counts, lists, sequence, picks)
            one, other = record.bundles()
            parts = zip(one, other, record.items_left())
            self.assertEqual(tuple(map(sum, parts)), counts)
            self.assertEqual(sum(one) + sum(other), len(picks))
            self.assertEqual(sum(one), first_turns(sequence)[:len(picks)].count("A"))

    def test_edges(self):
        self.assertEqual(Record((), ((), ()), [], []).bundles(), ((), ()))
        self.assertEqual(Record((), ((), ()), (), ()).items_left(), ())
        self.assertEqual(Record((HUGE, 0), ((0, 1), (1, 0)), [("A", HUGE)], []).items_left(), (HUGE, 0))
        self.assertEqual(Record((HUGE, 0), ((0, 1), (1, 0)), [("A", HUGE)], [0]).items_left(), (HUGE - 1, 0))
        self.assertEqual(Record((1, 1), ((0, 1), (1, 0)), [("BA", 1)], (0, 1)).bundles(), ((0, 1), (1, 0)))


class TestStandings(unittest.TestCase):
    def check_all(self, counts, lists, sequence, picks):
        record = Record(counts, lists, sequence, picks)
        for player in "AB":
            for opponent in opponents_of(counts, sequence):
                found = record.standings(player, opponent)
                self.assertIs(type(found), list)
                self.assertTrue(all(type(entry) is tuple for entry in found))
                self.assertEqual(found, slow_standings(counts, lists, sequence, picks, player, opponent))

    def test_examples(self):
        self.assertEqual(Record(*TEXT, [1]).standings("A", "hostile"), [(1, 1, 2), (0, 1, 2)])
        self.assertEqual(Record(*TEXT, [2]).standings("B", "thinking"), [(0, 1, 1), (1, 1, 1)])

    def test_small_records(self):
        for record in small_records("standings", 500) + small_records("standings of parts", 300, False):
            self.check_all(*record)

    def test_large_records(self):
        for record in large_records("large standings"):
            self.check_all(*record)

    def test_few_turns_of_one_player(self):
        chance = chance_of("few turns")
        for other in "AB":
            sequence = [(rival(other), 1), (other, BIG)] * 20 + [(other, 1)] * 100 + [(rival(other), 2)]
            counts = tuple(chance.choice([0, 1, 2, BIG]) for _ in range(59))
            counts += (max(0, length(sequence) - sum(counts)),)
            lists = some_list(chance, 60), some_list(chance, 60)
            picks = some_picks(chance, counts, 200)
            self.check_all(counts, lists, filled(counts, sequence), picks)

    def test_a_sequence_with_fewer_picks_than_items(self):
        chance = chance_of("parts")
        counts = tuple(chance.randint(0, BIG) for _ in range(60))
        lists = some_list(chance, 60), some_list(chance, 60)
        for sequence in ([("AB" * 10, 10)], [("ABB", 1)] * 70, [("A", 3), ("B", BIG)]):
            picks = some_picks(chance, counts, min(200, length(sequence)))
            self.check_all(counts, lists, sequence, picks)

    def test_edges(self):
        for opponent in OPPONENTS:
            self.assertEqual(Record((), ((), ()), [], []).standings("A", opponent), [()])
            self.assertEqual(Record((0, 0), ((0, 1), (1, 0)), [], []).standings("B", opponent), [(0, 0)])
            found = Record((1, 1), ((0, 1), (1, 0)), [("AB", 1)], [1, 0]).standings("A", opponent)
            self.assertEqual(found[1:], [(0, 1), (0, 1)])
            record = Record((HUGE, HUGE), ((0, 1), (0, 1)), [("AB", HUGE)], [1])
            self.assertEqual(record.standings("A", opponent), [(HUGE // 2, HUGE), (HUGE // 2, HUGE)])
        self.assertEqual(Record((2,), ((0,), (0,)), [("B", 1)], [0]).standings("A", "plain"), [(0,), (0,)])

    def test_thinking_needs_all_picks(self):
        record = Record((2, 1), ((0, 1), (1, 0)), [("AB", 1)], [0])
        for method in (record.standings, record.losses, record.first_loss):
            self.assertEqual(error_of(method, "A", "thinking"), (Mismatch, {"name": "sequence"}))
            self.assertIsNone(error_of(method, "A", "hostile")[0])

    def test_arguments(self):
        steps = [("player", wrong.wrong_player()), ("opponent", wrong.wrong_opponent())]
        right = {"player": "A", "opponent": "hostile"}
        for sequence in ([("AB", 1), ("A", 1)], [("AB", 1)]):
            record = Record((2, 1), ((0, 1), (1, 0)), sequence, [1, 0])
            for method in (record.standings, record.losses, record.first_loss):
                check_call(self, method, right)
                check_wrong(self, method, right, steps)
                check_steps(self, method, right, steps)
                if length(sequence) < 3:
                    late = [("opponent", [("thinking", Mismatch, "sequence")])]
                    check_wrong(self, method, right, late)
                    for value, error, told in wrong.wrong_player():
                        check_refused(self, method, {"player": value, "opponent": "thinking"}, error, told)


class TestLosses(unittest.TestCase):
    def test_examples(self):
        self.assertEqual(Record(*TEXT, [1]).losses("A", "plain"), [(0, (1, 1, 0))])
        self.assertEqual(Record(*TEXT, [1]).first_loss("A", "hostile"), (0, (1, 0, 0)))
        self.assertIsNone(Record(*TEXT, [0]).first_loss("A", "thinking"))

    def test_they_are_the_falls_of_the_standings(self):
        several = raised = 0
        for counts, lists, sequence, picks in small_records("losses", 400) + large_records("large losses")[:3]:
            record = Record(counts, lists, sequence, picks)
            turns = first_turns(sequence)
            for player in "AB":
                for opponent in OPPONENTS:
                    standings = record.standings(player, opponent)
                    wanted = []
                    for index, (one, other) in enumerate(zip(standings, standings[1:])):
                        falls = tuple(before - after for before, after in zip(one, other))
                        if turns[index] == player and any(before > after for before, after in zip(one, other)):
                            self.assertGreaterEqual(min(falls), 0)
                            wanted.append((index, falls))
                        raised += turns[index] != player and one != other
                    found = record.losses(player, opponent)
                    self.assertIs(type(found), list)
                    self.assertTrue(all(type(entry) is type(entry[1]) is tuple for entry in found))
                    self.assertEqual(found, wanted)
                    self.assertEqual(record.first_loss(player, opponent), wanted[0] if wanted else None)
                    several += len(wanted) > 1
        self.assertGreater(several, 100)
        self.assertGreater(raised, 100)

    def test_edges(self):
        for opponent in OPPONENTS:
            for record in (Record((), ((), ()), [], []), Record((1,), ((0,), (0,)), [("A", 1)], []),
                           Record((1,), ((0,), (0,)), [("A", 1)], [0])):
                self.assertEqual(record.losses("A", opponent), [])
                self.assertIsNone(record.first_loss("A", opponent))
            record = Record((1, 1), ((0, 1), (1, 0)), [("AB", 1)], [1, 0])
            self.assertEqual(record.losses("A", opponent), [(0, (1, 0))])
            # The pick of B that A had to fear is not a loss of A's making, and no loss of B's own.
            self.assertEqual(record.losses("B", opponent), [])

    def test_plain_picks_lose_nothing_against_a_hostile_opponent(self):
        for counts, lists, sequence, _ in small_records("plain picks", 200):
            left = list(counts)
            picks = []
            for turn in letters(sequence):
                picks.append(next(kind for kind in lists["AB".index(turn)] if left[kind]))
                left[picks[-1]] -= 1
            record = Record(counts, lists, sequence, picks)
            for player in "AB":
                self.assertEqual(record.losses(player, "hostile"), [])


class TestFacts(unittest.TestCase):
    """The facts of [7.7]."""

    def changes(self, name, whole=True):
        """All picks of drawn games: (own list, player, turns from this pick on, left, kind, standings around it)."""
        for counts, lists, sequence, picks in small_records(name, 250, whole) + large_records(name):
            record = Record(counts, lists, sequence, picks)
            turns = first_turns(sequence)
            for own, player in enumerate("AB"):
                standings = {opponent: record.standings(player, opponent)
                             for opponent in opponents_of(counts, sequence)}
                left = counts
                for at, kind in enumerate(picks):
                    around = {opponent: found[at:at + 2] for opponent, found in standings.items()}
                    yield lists, own, player, turns[at:], left, kind, around
                    left = less(left, kind)

    def test_own_picks_never_raise_an_entry(self):
        for _, _, player, turns, _, _, around in self.changes("never raise"):
            if turns[0] == player:
                for opponent, (before, after) in around.items():
                    falls = [one - other for one, other in zip(before, after)]
                    self.assertGreaterEqual(min(falls), 0)
                    if opponent != "thinking":
                        self.assertLessEqual(max(falls), 1)

    def test_some_kind_is_no_loss(self):
        for counts, lists, sequence, picks in small_records("no loss", 150):
            turns = letters(sequence)
            for at in range(len(picks)):
                left = counts
                for kind in picks[:at]:
                    left = less(left, kind)
                rest = rest_of(sequence, at)
                for opponent in OPPONENTS:
                    free = [kind for kind in left_kinds(left)
                            if not Record(left, lists, rest, [kind]).losses(turns[at], opponent)]
                    self.assertTrue(free)
                    own = "AB".index(turns[at])
                    if opponent == "hostile":
                        self.assertEqual(sorted(safe_picks(left, lists[own], rest, turns[at])), free)
                    if opponent == "thinking":
                        self.assertLessEqual(set(best_first_picks(left, lists, rest)), set(free))

    def test_hostile(self):
        for whole in (True, False):
            for lists, own, player, turns, left, kind, around in self.changes("hostile", whole):
                before, after = around["hostile"]
                for prefix in range(1, len(left) + 1):
                    many = held(left, lists[own], prefix)
                    if many < 300:
                        behind = turns[many:many + 1] == player
                        change = 0
                        if kind not in lists[own][:prefix]:
                            change = behind - (turns[0] == player)
                        self.assertEqual(after[prefix - 1] - before[prefix - 1], change)

    def test_plain_picks_of_the_opponent(self):
        plain = 0
        for lists, own, player, turns, left, kind, around in self.changes("plain"):
            if turns[0] != player and kind == next(best for best in lists[1 - own] if left[best]):
                before, after = around["plain"]
                self.assertEqual(before, after)
                plain += 1
        self.assertGreater(plain, 300)

    def test_after_the_last_pick(self):
        ended = 0
        for counts, lists, sequence, picks in small_records("last pick", 300, False) + small_records("the end", 200):
            if len(picks) == length(sequence):
                record = Record(counts, lists, sequence, picks)
                for own, player in enumerate("AB"):
                    bundle = record.bundles()[own]
                    has = tuple(held(bundle, lists[own], prefix) for prefix in range(1, len(counts) + 1))
                    for opponent in opponents_of(counts, sequence):
                        self.assertEqual(record.standings(player, opponent)[-1], has)
                        ended += 1
        self.assertGreater(ended, 500)

    def test_hostile_is_least_and_plain_is_most(self):
        for _, _, _, _, _, _, around in self.changes("least and most"):
            for at in (0, 1):
                rows = zip(around["hostile"][at], around["thinking"][at], around["plain"][at])
                self.assertTrue(all(least <= middle <= most for least, middle, most in rows))


if __name__ == "__main__":
    unittest.main()
