"""Stage 4: sure_counts, sure_bundle, is_sure, safe_picks, tight_picks, sure_after."""

import functools
import itertools
import unittest

import wrong
from arguments import check_arguments
from helpers import as_good, chance_of, error_of, held, left_kinds, less, letters, many_games, more, rival, tiny_games
from turnpicks import hostile
from turnpicks.bundles import best_bundle
from turnpicks.errors import InvalidBundle, InvalidKind, Mismatch
from turnpicks.hostile import is_sure, safe_picks, sure_after, sure_bundle, sure_counts, tight_picks
from turnpicks.plain import plain_game
from turnpicks.turns import length, rest_of, turns_among

BIG = 10 ** 30
HUGE = 10 ** 5000

SIDE = {"counts": (2, 1), "ranking": (0, 1), "sequence": [("AB", 1)], "player": "A"}
AHEAD = [
    ("counts", wrong.wrong_counts()), ("ranking", wrong.wrong_ranking()), ("sequence", wrong.wrong_sequence()),
    ("player", wrong.wrong_player()),
]
TOO_LONG = [("sequence", wrong.too_long(3))]


def sides(name, many, **more_named):
    """Small games, each with a player and the own list: counts, ranking, sequence, player."""
    games = []
    for counts, lists, sequence in tiny_games(name, many, **more_named):
        games += [(counts, lists[0], sequence, "A"), (counts, lists[1], sequence, "B")]
    return games


def large_sides(name):
    """Games with 60 kinds and 200 blocks, each with a player and the own list."""
    return [(counts, lists[at % 2], sequence, "AB"[at % 2])
            for at, (counts, lists, sequence) in enumerate(many_games(name))]


def prefixes(counts):
    """The numbers of all prefixes."""
    return range(1, len(counts) + 1)


def slow_sure(counts, ranking, whole, player):
    """The sure counts, counted pick by pick."""
    return [whole[:held(counts, ranking, prefix)].count(player) for prefix in prefixes(counts)]


def can_ensure(counts, ranking, whole, player, wanted):
    """Whether the player can have the wanted numbers of all prefixes at once, by going through all picks of both."""
    @functools.lru_cache(maxsize=None)
    def wins(left, own):
        picked = sum(counts) - sum(left)
        if picked == len(whole):
            return all(held(own, ranking, prefix) >= wanted[prefix - 1] for prefix in prefixes(counts))
        if whole[picked] == player:
            return any(wins(less(left, kind), more(own, kind)) for kind in left_kinds(left))
        return all(wins(less(left, kind), own) for kind in left_kinds(left))

    return wins(counts, (0,) * len(counts))


def slow_after(counts, ranking, whole, player, kind):
    """The sure counts after the first pick, counted pick by pick; an own item counts."""
    found = slow_sure(less(counts, kind), ranking, whole[1:], player)
    if whole[0] != player:
        return found
    return [many + (ranking.index(kind) < prefix) for many, prefix in zip(found, prefixes(counts))]


def last_cannot(wanted):
    """The wanted numbers, each changed by one in turn."""
    return [tuple(many + (at == place) for place, many in enumerate(wanted)) for at in range(len(wanted))]


class TestSureCounts(unittest.TestCase):
    def test_examples(self):
        self.assertEqual(sure_counts((2, 1, 2), (0, 1, 2), [("ABBA", 1)], "A"), [1, 1, 2])
        self.assertEqual(sure_bundle((2, 1, 2), (0, 1, 2), [("ABBA", 1)], "A"), (1, 0, 1))

    def test_single_picks(self):
        for counts, ranking, sequence, player in sides("sure", 200):
            found = sure_counts(counts, ranking, sequence, player)
            self.assertEqual(found, slow_sure(counts, ranking, letters(sequence), player))

    def test_all_picks_of_small_games(self):
        for counts, ranking, sequence, player in sides("all picks", 60, most_items=6):
            whole = letters(sequence)
            found = sure_counts(counts, ranking, sequence, player)
            self.assertTrue(can_ensure(counts, ranking, whole, player, found))
            for wanted in last_cannot(found):
                only = [many if many > sure else 0 for many, sure in zip(wanted, found)]
                self.assertFalse(can_ensure(counts, ranking, whole, player, only))

    def test_plain_picks_against_all_others(self):
        for counts, ranking, sequence, player in sides("plain picks", 80, most_items=7):
            states = {(counts, (0,) * len(counts))}
            for turn in letters(sequence):
                after = set()
                for left, own in states:
                    if turn == player:
                        kind = next(kind for kind in ranking if left[kind])
                        after.add((less(left, kind), more(own, kind)))
                    else:
                        after |= {(less(left, kind), own) for kind in left_kinds(left)}
                states = after
            least = [min(held(own, ranking, prefix) for _, own in states) for prefix in prefixes(counts)]
            self.assertEqual(sure_counts(counts, ranking, sequence, player), least)

    def test_sure_bundle_has_the_sure_counts(self):
        for side in sides("sure bundle", 200) + large_sides("large sure bundle"):
            found = sure_bundle(*side)
            self.assertIs(type(found), tuple)
            self.assertTrue(all(0 <= many <= there for many, there in zip(found, side[0])))
            self.assertEqual([held(found, side[1], prefix) for prefix in prefixes(side[0])], sure_counts(*side))

    def test_opponent_with_the_same_list_lets_no_more(self):
        for counts, ranking, sequence, player in sides("same list", 100) + large_sides("large same list"):
            ended = plain_game(counts, (ranking, ranking), sequence)["AB".index(player)]
            self.assertEqual(ended, sure_bundle(counts, ranking, sequence, player))
            self.assertEqual(ended, best_bundle(counts, (ranking, ranking), sequence, player))

    def test_large_games(self):
        for counts, ranking, sequence, player in large_sides("large sure"):
            items = [held(counts, ranking, prefix) for prefix in prefixes(counts)]
            found = [turns_among(sequence, player, many) for many in items]
            self.assertEqual(sure_counts(counts, ranking, sequence, player), found)

    def test_edges(self):
        self.assertEqual(sure_counts((), (), [], "A"), [])
        self.assertEqual(sure_bundle((), (), (), "A"), ())
        self.assertEqual(sure_counts((0, 0), (1, 0), [], "B"), [0, 0])
        self.assertEqual(sure_counts((3, 0, 2), (1, 0, 2), [("B", 4)], "A"), [0, 0, 0])
        self.assertEqual(sure_counts((3, 0, 2), (1, 0, 2), [("B", 4)], "B"), [0, 3, 4])
        self.assertEqual(sure_bundle((3, 0, 2), (1, 0, 2), [("B", 4)], "B"), (3, 0, 1))
        self.assertEqual(sure_bundle((3, 0, 2), (2, 1, 0), [("B", 5)], "B"), (3, 0, 2))
        self.assertEqual(sure_counts((HUGE, HUGE), (1, 0), [("BA", HUGE)], "A"), [HUGE // 2, HUGE])

    def test_results_are_new(self):
        found = sure_counts((2, 1), (0, 1), [("AB", 1)], "A")
        found.append("more")
        self.assertEqual(sure_counts((2, 1), (0, 1), [("AB", 1)], "A"), [1, 1])

    def test_arguments(self):
        check_arguments(self, sure_counts, hostile, SIDE, AHEAD + TOO_LONG)
        check_arguments(self, sure_bundle, hostile, SIDE, AHEAD + TOO_LONG)


class TestIsSure(unittest.TestCase):
    def test_examples(self):
        self.assertIs(is_sure((1, 2), (0, 1), [("BA", 1)], "A", [0, 1]), True)
        self.assertIs(is_sure((1, 2), (0, 1), [("BA", 1)], "A", [1, 1]), False)

    def test_all_picks_of_small_games(self):
        chance = chance_of("is sure")
        answers = []
        for counts, ranking, sequence, player in sides("is sure", 150, most_items=6):
            sure = slow_sure(counts, ranking, letters(sequence), player)
            for _ in range(3):
                wanted = [many + chance.choice([-9, -1, 0, 0, 0, 1]) for many in sure]
                found = is_sure(counts, ranking, sequence, player, wanted)
                self.assertIs(found, can_ensure(counts, ranking, letters(sequence), player, wanted))
                self.assertIs(is_sure(counts, ranking, tuple(sequence), player, tuple(wanted)), found)
                answers.append(found)
        self.assertGreater(answers.count(True), 150)
        self.assertGreater(answers.count(False), 150)

    def test_each_prefix_decides(self):
        for side in large_sides("each prefix"):
            sure = sure_counts(*side)
            self.assertIs(is_sure(*side, sure), True)
            self.assertIs(is_sure(*side, [-HUGE] * 60), True)
            for wanted in last_cannot(sure):
                self.assertIs(is_sure(*side, wanted), False)

    def test_edges(self):
        self.assertIs(is_sure((), (), [], "A", []), True)
        self.assertIs(is_sure((), (), [], "A", ()), True)
        self.assertIs(is_sure((2, 1), (0, 1), [], "A", [0, 0]), True)
        self.assertIs(is_sure((2, 1), (0, 1), [], "A", [0, 1]), False)
        self.assertIs(is_sure((2, 1), (0, 1), [], "A", (-1, -HUGE)), True)
        self.assertIs(is_sure((2, 1), (0, 1), [("A", 3)], "A", (5, -HUGE)), False)
        # The wanted numbers need not rise along the list.
        self.assertIs(is_sure((2, 1), (0, 1), [("A", 3)], "A", (2, 0)), True)

    def test_wanted_stays(self):
        wanted = [1, 0]
        is_sure((2, 1), (0, 1), [("A", 3)], "A", wanted)
        self.assertEqual(wanted, [1, 0])

    def test_arguments(self):
        steps = AHEAD + [("wanted", wrong.wrong_wanted())] + TOO_LONG
        check_arguments(self, is_sure, hostile, {**SIDE, "wanted": [1, 1]}, steps)
        call = error_of(is_sure, (), (), [], "A", [1])
        self.assertEqual(call, (InvalidBundle, {"index": -1}))


class TestSafeAndTightPicks(unittest.TestCase):
    def kept(self, counts, ranking, whole, player, keeps):
        """The kinds, in the order of the list, that can be picked first so that all sure counts keep what they must."""
        before = slow_sure(counts, ranking, whole, player)
        after = {kind: slow_after(counts, ranking, whole, player, kind) for kind in left_kinds(counts)}
        return [kind for kind in ranking if counts[kind] and all(map(keeps, before, after[kind]))]

    def by_the_rule(self, counts, ranking, whole, player, safe):
        """The same by the rule of the document."""
        kinds = []
        for place, kind in enumerate(ranking):
            items = [held(counts, ranking, prefix) for prefix in range(1, place + 1)]
            own = [many < len(whole) and whole[many] == player for many in items if many]
            if counts[kind] and all(one == safe for one in own):
                kinds.append(kind)
        return kinds

    def test_examples(self):
        self.assertEqual(safe_picks((1, 1, 1, 1), (0, 1, 2, 3), [("AAB", 1)], "A"), [0, 1])
        call = error_of(safe_picks, (1, 1), (0, 1), [("BA", 1)], "A")
        self.assertEqual(call, (Mismatch, {"name": "player"}))
        self.assertEqual(tight_picks((1, 1, 1), (0, 1, 2), [("BBA", 1)], "A"), [0, 1])

    def test_small_games(self):
        safe = tight = 0
        for counts, ranking, sequence, player in sides("safe", 400):
            whole = letters(sequence)
            if whole[:1] == player:
                found = safe_picks(counts, ranking, sequence, player)
                self.assertEqual(found, self.kept(counts, ranking, whole, player, lambda old, new: new >= old))
                self.assertEqual(found, self.by_the_rule(counts, ranking, whole, player, True))
                safe += len(found) > 1
                call = error_of(tight_picks, counts, ranking, sequence, player)
                self.assertEqual(call, (Mismatch, {"name": "player"}))
            else:
                call = error_of(safe_picks, counts, ranking, sequence, player)
                self.assertEqual(call, (Mismatch, {"name": "player"}))
            if whole[:1] == rival(player):
                found = tight_picks(counts, ranking, sequence, player)
                self.assertEqual(found, self.kept(counts, ranking, whole, player, lambda old, new: new <= old))
                self.assertEqual(found, self.by_the_rule(counts, ranking, whole, player, False))
                tight += len(found) > 1
        self.assertGreater(safe, 50)
        self.assertGreater(tight, 50)

    def test_large_games(self):
        for counts, ranking, sequence, player in large_sides("large safe"):
            first = sequence[0][0][0]
            picks = safe_picks if player == first else tight_picks
            found = picks(counts, ranking, sequence, player)
            before = sure_counts(counts, ranking, sequence, player)
            kept = []
            for kind in ranking:
                if counts[kind]:
                    after = sure_after(counts, ranking, sequence, player, kind)
                    pairs = zip(before, after) if player == first else zip(after, before)
                    if all(low <= high for low, high in pairs):
                        kept.append(kind)
            self.assertEqual(found, kept)

    def test_many_kinds_are_safe_or_tight(self):
        counts = (BIG,) * 60
        ranking = tuple(range(60))[::-1]
        start = [("ABB" + "A" * 17, 1), ("B", BIG - 20), ("A", BIG)]
        some = start + [("A", 2), ("BA", 29 * BIG - 1)]
        every = start + [("AB", 29 * BIG - 1), ("A", 1)]
        for sequence, wanted in ((some, [59, 58, 57]), (every, list(ranking))):
            self.assertEqual(safe_picks(counts, ranking, sequence, "A"), wanted)
            self.assertEqual(tight_picks(counts, ranking, sequence, "B"), wanted)
            other = [(turns.translate({65: "B", 66: "A"}), times) for turns, times in sequence]
            self.assertEqual(safe_picks(counts, ranking, other, "B"), wanted)
            self.assertEqual(tight_picks(counts, ranking, other, "A"), wanted)

    def test_edges(self):
        for function in (safe_picks, tight_picks):
            for game in [((), (), []), ((2, 1), (0, 1), []), ((0,), (0,), ())]:
                self.assertEqual(error_of(function, *game, "A"), (Mismatch, {"name": "player"}))
        self.assertEqual(safe_picks((0, 2, 0, 1), (0, 2, 1, 3), [("A", 3)], "A"), [1, 3])
        self.assertEqual(safe_picks((0, 2, 0, 1), (0, 2, 1, 3), [("A", 2)], "A"), [1])
        self.assertEqual(tight_picks((0, 2, 0, 1), (0, 2, 1, 3), [("A", 2)], "B"), [1, 3])
        self.assertEqual(tight_picks((0, 2, 0, 1), (3, 2, 1, 0), [("AB", 1)], "B"), [3])
        self.assertEqual(safe_picks((HUGE, 1), (0, 1), [("A", HUGE)], "A"), [0])
        self.assertEqual(safe_picks((HUGE, 1), (0, 1), [("A", HUGE), ("A", 1)], "A"), [0, 1])
        self.assertEqual(safe_picks((HUGE, 1), (0, 1), [("A", HUGE), ("B", 1)], "A"), [0])
        self.assertEqual(tight_picks((HUGE, 1), (0, 1), [("A", HUGE), ("A", 1)], "B"), [0, 1])
        self.assertEqual(tight_picks((HUGE, 1), (0, 1), [("A", HUGE), ("B", 1)], "B"), [0])

    def test_results_are_new(self):
        found = safe_picks((1, 1), (0, 1), [("AA", 1)], "A")
        found.append("more")
        self.assertEqual(safe_picks((1, 1), (0, 1), [("AA", 1)], "A"), [0, 1])
        found = tight_picks((1, 1), (0, 1), [("AA", 1)], "B")
        found.append("more")
        self.assertEqual(tight_picks((1, 1), (0, 1), [("AA", 1)], "B"), [0, 1])

    def test_arguments(self):
        for function, player in ((safe_picks, "B"), (tight_picks, "A")):
            last = [("player", [(player, Mismatch, "player")])]
            right = {**SIDE, "player": rival(player)}
            check_arguments(self, function, hostile, right, AHEAD + TOO_LONG + last)
            no_pick = [("sequence", [([], Mismatch, "player"), ((), Mismatch, "player")])]
            check_arguments(self, function, hostile, right, AHEAD + no_pick)


class TestSureAfter(unittest.TestCase):
    def test_example(self):
        self.assertEqual(sure_after((1, 1, 1), (0, 1, 2), [("ABA", 1)], "A", 1), [0, 1, 2])

    def test_single_picks(self):
        for counts, ranking, sequence, player in sides("after", 300):
            whole = letters(sequence)
            for kind in left_kinds(counts):
                if whole:
                    found = sure_after(counts, ranking, sequence, player, kind)
                    self.assertEqual(found, slow_after(counts, ranking, whole, player, kind))

    def test_large_games(self):
        for counts, ranking, sequence, player in large_sides("large after"):
            sequence = sequence[1:]
            before = sure_counts(counts, ranking, sequence, player)
            own = sequence[0][0][0] == player
            for kind in left_kinds(counts)[::5]:
                rest = sure_counts(less(counts, kind), ranking, rest_of(sequence, 1), player)
                place = ranking.index(kind)
                wanted = [many + (own and at >= place) for at, many in enumerate(rest)]
                found = sure_after(counts, ranking, sequence, player, kind)
                self.assertEqual(found, wanted)
                self.assertTrue(all(-1 <= new - old <= 0 if own else 0 <= new - old <= 1
                                    for old, new in zip(before, found)))

    def test_differs_by_at_most_one(self):
        seen = set()
        for counts, ranking, sequence, player in sides("differs", 300):
            for kind in left_kinds(counts):
                if sequence:
                    before = sure_counts(counts, ranking, sequence, player)
                    after = sure_after(counts, ranking, sequence, player, kind)
                    own = letters(sequence)[0] == player
                    changes = {new - old for old, new in zip(before, after)}
                    self.assertLessEqual(changes, {-1, 0} if own else {0, 1})
                    seen |= {(own, change) for change in changes}
        self.assertEqual(seen, {(True, -1), (True, 0), (False, 0), (False, 1)})

    def played(self, chance, side, others):
        """The bundle of the player, who makes safe picks only, while the other picks what `others` allows."""
        left, ranking, sequence, player = side
        own = (0,) * len(left)
        for turn in range(length(sequence)):
            rest = rest_of(sequence, turn)
            if letters(rest)[0] == player:
                kind = chance.choice(safe_picks(left, ranking, rest, player))
                own = more(own, kind)
            else:
                kind = chance.choice(others(left, ranking, rest, player))
            left = less(left, kind)
        return own

    def test_safe_picks_against_tight_picks(self):
        chance = chance_of("safe against tight")
        for side in sides("safe against tight", 200):
            self.assertEqual(self.played(chance, side, tight_picks), sure_bundle(*side))

    def test_safe_picks_ensure_as_much_against_any(self):
        chance = chance_of("safe against any")
        for side in sides("safe against any", 200):
            found = self.played(chance, side, lambda left, *told: left_kinds(left))
            self.assertTrue(as_good(side[1], found, sure_bundle(*side)))

    def test_edges(self):
        self.assertEqual(sure_after((1,), (0,), [("A", 1)], "A", 0), [1])
        self.assertEqual(sure_after((1,), (0,), [("A", 1)], "B", 0), [0])
        self.assertEqual(sure_after((0, 2), (0, 1), (("B", 2),), "B", 1), [0, 2])
        self.assertEqual(sure_after((HUGE, HUGE), (0, 1), [("AB", HUGE)], "A", 1), [HUGE // 2, HUGE])
        self.assertEqual(sure_after((HUGE, HUGE), (0, 1), [("BA", HUGE)], "A", 1), [HUGE // 2, HUGE])
        self.assertEqual(sure_after((HUGE + 1, HUGE), (0, 1), [("BA", HUGE)], "A", 1), [HUGE // 2 + 1, HUGE])

    def test_results_are_new(self):
        found = sure_after((1, 1), (0, 1), [("AA", 1)], "A", 0)
        found.append("more")
        self.assertEqual(sure_after((1, 1), (0, 1), [("AA", 1)], "A", 0), [1, 2])

    def test_arguments(self):
        right = {**SIDE, "kind": 1}
        no_pick = [("sequence", [([], Mismatch, "sequence"), ((), Mismatch, "sequence")])]
        for late in (TOO_LONG, no_pick):
            check_arguments(self, sure_after, hostile, right, AHEAD + [("kind", wrong.wrong_kind())] + late)
        for kind in (0, 2):
            for sequence in ([], [("A", 2)], [("A", 1)]):
                call = error_of(sure_after, (0, 1, 0), (1, 0, 2), sequence, "A", kind)
                self.assertEqual(call, (InvalidKind, {"kind": kind}))
        self.assertEqual(error_of(sure_after, (), (), [], "A", 0), (InvalidKind, {"kind": 0}))


class TestBothForms(unittest.TestCase):
    def test_list_and_tuple_are_the_same(self):
        for counts, ranking, sequence, player in sides("both forms", 60):
            one, other = [(counts, ranking, form, player) for form in (sequence, tuple(sequence))]
            functions = [sure_counts, sure_bundle]
            if sequence:
                functions.append(safe_picks if letters(sequence)[0] == player else tight_picks)
            for function in functions:
                self.assertEqual(function(*one), function(*other))
            for kind in left_kinds(counts) if sequence else []:
                self.assertEqual(sure_after(*one, kind), sure_after(*other, kind))

    def test_all_orders_of_a_tiny_game(self):
        # Every list and every string of three turns over three kinds, by going through all picks.
        for ranking in itertools.permutations(range(3)):
            for whole in itertools.product("AB", repeat=3):
                whole = "".join(whole)
                found = sure_counts((1, 1, 1), ranking, [(whole, 1)], "A")
                self.assertTrue(can_ensure((1, 1, 1), ranking, whole, "A", found))


if __name__ == "__main__":
    unittest.main()
