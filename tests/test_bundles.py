"""Stage 3: caps, can_have, best_bundle, pick_order, check_order, exchanges, best_value, check_value."""

import copy
import unittest

import wrong
from arguments import check_arguments, check_refused
from helpers import all_bundles, as_good, chance_of, error_of, held, less, letters, many_games, more, rival
from helpers import left_kinds, some_list, tiny_games
from turnpicks import bundles
from turnpicks.bundles import best_bundle, best_value, can_have, caps, check_order, check_value, exchanges, pick_order
from turnpicks.errors import CannotHave, InvalidBundle, InvalidKind, InvalidOrder, InvalidValues, Misfit, Mismatch
from turnpicks.turns import turns_among

BIG = 10 ** 30
HUGE = 10 ** 5000

SIDE = {"counts": (2, 1), "ranking": (0, 1), "sequence": [("BA", 1)], "player": "A"}
SIDE_STEPS = [
    ("counts", wrong.wrong_counts()), ("ranking", wrong.wrong_ranking()), ("sequence", wrong.wrong_sequence()),
    ("player", wrong.wrong_player()), ("sequence", wrong.too_long(3)),
]


def sides(name, many, **more_named):
    """Small games, each with the opponent's list and the player: counts, ranking, sequence, player."""
    games = []
    for counts, lists, sequence in tiny_games(name, many, **more_named):
        games += [(counts, lists[1], sequence, "A"), (counts, lists[0], sequence, "B")]
    return games


def large_sides(name):
    """Games with 60 kinds and 200 blocks, each with the opponent's list and the player."""
    return [(counts, lists[1], sequence, "AB"[at % 2]) for at, (counts, lists, sequence) in enumerate(many_games(name))]


def turns_of(sequence, player):
    """The number of turns of the player."""
    return letters(sequence).count(player)


def slow_caps(counts, ranking, sequence, player):
    """The caps, counted pick by pick."""
    whole = letters(sequence)
    return [whole[:held(counts, ranking, prefix)].count(player) for prefix in range(1, len(counts) + 1)]


def reached(counts, ranking, sequence, player):
    """All bundles that the player can end with, found by going through all picks of the player."""
    states = {(counts, (0,) * len(counts))}
    for turn in letters(sequence):
        after = set()
        for left, own in states:
            if turn == player:
                after |= {(less(left, kind), more(own, kind)) for kind in left_kinds(left)}
            else:
                after.add((less(left, next(kind for kind in ranking if left[kind])), own))
        states = after
    return {own for _, own in states}


def slow_missed(counts, ranking, sequence, player, order):
    """The index of the first run with a pick that is not possible, found pick by pick, or None."""
    picks = [(index, kind) for index, (kind, number) in enumerate(order) for _ in range(number)]
    left = list(counts)
    for turn in letters(sequence):
        if turn == player:
            index, kind = picks.pop(0)
            if not left[kind]:
                return index
        else:
            kind = next(kind for kind in ranking if left[kind])
        left[kind] -= 1
    return None


def worth(bundle, values):
    """The sum of the values of the items of a bundle."""
    return sum(many * value for many, value in zip(bundle, values))


def slow_bound(counts, ranking, sequence, player, values, prices):
    """The bound that prices show, as the document puts it."""
    bound = sum(price * cap for price, cap in zip(prices, slow_caps(counts, ranking, sequence, player)))
    for place, kind in enumerate(ranking):
        cost = sum(prices[place:])
        if values[kind] > cost:
            bound += (values[kind] - cost) * counts[kind]
    return bound


def some_values(chance, kinds):
    """Values of so many kinds: large and small ones, equal ones, also negative."""
    most = chance.choice([0, 1, 3, 10, BIG])
    return [chance.randint(-most, most) for _ in range(kinds)]


class TestCaps(unittest.TestCase):
    def test_example(self):
        self.assertEqual(caps((2, 1), (0, 1), [("BA", 1)], "A"), [1, 1])

    def test_single_picks(self):
        for side in sides("caps", 200):
            self.assertEqual(caps(*side), slow_caps(*side))

    def test_edges(self):
        self.assertEqual(caps((), (), [], "A"), [])
        self.assertEqual(caps((), (), (), "B"), [])
        self.assertEqual(caps((0, 0), (1, 0), [], "B"), [0, 0])
        self.assertEqual(caps((3, 0, 2), (1, 0, 2), [], "B"), [0, 0, 0])
        self.assertEqual(caps((3, 0, 2), (1, 0, 2), [("B", 4)], "A"), [0, 0, 0])
        self.assertEqual(caps((3, 0, 2), (1, 0, 2), [("B", 4)], "B"), [0, 3, 4])
        self.assertEqual(caps((3, 0, 2), (2, 1, 0), [("B", 5)], "B"), [2, 2, 5])

    def test_huge_numbers(self):
        self.assertEqual(caps((HUGE, HUGE), (1, 0), [("ABB", HUGE // 3)], "B")[1], HUGE // 3 * 2)
        self.assertEqual(caps((HUGE, 1), (0, 1), [("A", HUGE), ("B", 1)], "B"), [0, 1])
        self.assertEqual(caps((5, HUGE, 7), (2, 1, 0), [("AB", HUGE // 2)], "A"), [4, HUGE // 2, HUGE // 2])

    def test_large_games(self):
        for counts, ranking, sequence, player in large_sides("large caps"):
            found = caps(counts, ranking, sequence, player)
            items = [held(counts, ranking, prefix) for prefix in range(1, 61)]
            self.assertEqual(found, [turns_among(sequence, player, many) for many in items])

    def test_results_are_new(self):
        found = caps((2, 1), (0, 1), [("BA", 1)], "A")
        found.append("more")
        self.assertEqual(caps((2, 1), (0, 1), [("BA", 1)], "A"), [1, 1])

    def test_arguments(self):
        check_arguments(self, caps, bundles, SIDE, SIDE_STEPS)


class TestCanHave(unittest.TestCase):
    def test_examples(self):
        self.assertEqual(can_have((2, 1), (0, 1), [("BBA", 1)], "A", (1, 0)), 1)
        self.assertIsNone(can_have((2, 1), (0, 1), [("BBA", 1)], "A", (0, 1)))

    def test_all_bundles_of_small_games(self):
        refused = 0
        for counts, ranking, sequence, player in sides("have", 200):
            can = reached(counts, ranking, sequence, player)
            limits = slow_caps(counts, ranking, sequence, player)
            for bundle in all_bundles(counts, turns_of(sequence, player)):
                over = [place + 1 for place, cap in enumerate(limits) if held(bundle, ranking, place + 1) > cap]
                self.assertEqual(bundle in can, not over)
                self.assertEqual(can_have(counts, ranking, sequence, player, bundle), over[0] if over else None)
                refused += len(over) > 0
        self.assertGreater(refused, 150)

    def test_edges(self):
        self.assertIsNone(can_have((), (), [], "A", ()))
        self.assertIsNone(can_have((2, 0), (0, 1), [], "A", (0, 0)))
        self.assertIsNone(can_have((2, 0), (0, 1), [("B", 2)], "A", (0, 0)))
        self.assertIsNone(can_have((2, 3), (0, 1), [("A", 5)], "A", (2, 3)))
        self.assertEqual(can_have((2, 3), (1, 0), [("BBBAA", 1)], "A", (1, 1)), 1)
        self.assertIsNone(can_have((2, 3), (1, 0), [("BBBAA", 1)], "A", (2, 0)))

    def test_huge_numbers(self):
        half = HUGE // 2
        game = (HUGE, HUGE), (0, 1), [("AB", HUGE)], "A"
        self.assertIsNone(can_have(*game, (half, half)))
        self.assertIsNone(can_have(*game, (half - 1, half + 1)))
        self.assertEqual(can_have(*game, (half + 1, half - 1)), 1)

    def test_large_games(self):
        chance = chance_of("large have")
        for counts, ranking, sequence, player in large_sides("large have"):
            bundle = list(best_value(counts, ranking, sequence, player, some_list(chance, 60))[1])
            limits = caps(counts, ranking, sequence, player)
            for _ in range(60):
                one, other = chance.choice(left_kinds(bundle)), chance.randrange(60)
                if one != other and bundle[other] < counts[other]:
                    bundle[one] -= 1
                    bundle[other] += 1
                over = [place + 1 for place in range(60) if held(bundle, ranking, place + 1) > limits[place]]
                wanted = over[0] if over else None
                self.assertEqual(can_have(counts, ranking, sequence, player, tuple(bundle)), wanted)

    def test_bundles_of_60_kinds(self):
        counts, ranking, sequence, player = large_sides("large have")[2]
        bundle = best_value(counts, ranking, sequence, player, counts)[1]
        for kind in (0, 31, 59):
            over = bundle[:kind] + (counts[kind] + 1,) + bundle[kind + 1:]
            call = error_of(can_have, counts, ranking, sequence, player, over)
            self.assertEqual(call, (InvalidBundle, {"index": kind}))
        call = error_of(can_have, counts, ranking, sequence, player, less(bundle, left_kinds(bundle)[0]))
        self.assertEqual(call, (InvalidBundle, {"index": 60}))
        call = error_of(can_have, counts, ranking, sequence, player, bundle + (0,))
        self.assertEqual(call, (InvalidBundle, {"index": -1}))

    def test_arguments(self):
        steps = SIDE_STEPS + [("bundle", wrong.wrong_bundle())]
        check_arguments(self, can_have, bundles, {**SIDE, "bundle": (1, 0)}, steps)

    def test_no_kinds(self):
        for value in [[], (0,), None, 0]:
            self.assertEqual(error_of(can_have, (), (), [], "A", value), (InvalidBundle, {"index": -1}))


class TestBestBundle(unittest.TestCase):
    def test_example(self):
        lists = ((0, 1, 2, 3), (1, 0, 2, 3))
        self.assertEqual(best_bundle((1, 1, 1, 1), lists, [("AB", 2)], "A"), (1, 0, 1, 0))

    def test_small_games(self):
        for counts, lists, sequence in tiny_games("best", 300):
            for player in "AB":
                own, other = lists["AB".index(player)], lists["BA".index(player)]
                found = best_bundle(counts, lists, sequence, player)
                can = reached(counts, other, sequence, player)
                self.assertIn(found, can)
                self.assertTrue(all(as_good(own, found, bundle) for bundle in can))

    def test_edges(self):
        self.assertEqual(best_bundle((), ((), ()), [], "B"), ())
        self.assertEqual(best_bundle((2, 1), ((0, 1), (1, 0)), [], "B"), (0, 0))
        self.assertEqual(best_bundle((2, 1), ((0, 1), (1, 0)), [("A", 3)], "B"), (0, 0))
        self.assertEqual(best_bundle((2, 1), ((0, 1), (1, 0)), [("A", 3)], "A"), (2, 1))
        self.assertEqual(best_bundle((2, 1, 0), ((2, 0, 1), (2, 1, 0)), [("BA", 1)], "A"), (1, 0, 0))

    def test_large_games(self):
        for counts, lists, sequence in many_games("large best"):
            for player in "AB":
                own, other = lists["AB".index(player)], lists["BA".index(player)]
                found = best_bundle(counts, lists, sequence, player)
                self.assertIsNone(can_have(counts, other, sequence, player, found))
                # No exchange leads to a kind that stands ahead: in such a family of bundles, then, it is the best one.
                for place, kind in enumerate(own):
                    behind = set(own[place + 1:])
                    self.assertFalse(behind & set(exchanges(counts, other, sequence, player, found, kind)))

    def test_huge_numbers(self):
        half = HUGE // 2
        lists = ((0, 1), (0, 1))
        self.assertEqual(best_bundle((HUGE, HUGE), lists, [("AB", HUGE)], "B"), (half, half))
        self.assertEqual(best_bundle((HUGE, HUGE), lists[:1] + ((1, 0),), [("AB", HUGE)], "B"), (0, HUGE))

    def test_arguments(self):
        right = {"counts": (2, 1), "lists": ((0, 1), (1, 0)), "sequence": [("BA", 1)], "player": "A"}
        steps = [
            ("counts", wrong.wrong_counts()), ("lists", wrong.wrong_lists()), ("sequence", wrong.wrong_sequence()),
            ("player", wrong.wrong_player()), ("sequence", wrong.too_long(3)),
        ]
        check_arguments(self, best_bundle, bundles, right, steps)


class TestPickOrder(unittest.TestCase):
    def check_gets(self, side, bundle):
        order = pick_order(*side, bundle)
        self.assertIs(type(order), list)
        got = [0] * len(bundle)
        for run in order:
            self.assertIs(type(run), tuple)
            kind, number = run
            self.assertTrue(type(number) is int and number >= 1)
            got[kind] += number
        self.assertEqual(tuple(got), bundle)
        self.assertIsNone(check_order(*side, order))
        return order

    def test_example(self):
        call = error_of(pick_order, (2, 1), (0, 1), [("BBA", 1)], "A", (1, 0))
        self.assertEqual(call, (CannotHave, {"prefix": 1}))

    def test_small_games(self):
        for side in sides("order", 200):
            can = reached(*side)
            for bundle in all_bundles(side[0], turns_of(side[2], side[3])):
                if bundle in can:
                    self.assertIsNone(slow_missed(*side, self.check_gets(side, bundle)))
                else:
                    call = error_of(pick_order, *side, bundle)
                    self.assertEqual(call, (CannotHave, {"prefix": can_have(*side, bundle)}))

    def test_large_games(self):
        chance = chance_of("large order")
        for side in large_sides("large order"):
            for _ in range(20):
                self.check_gets(side, best_value(*side, some_values(chance, 60))[1])

    def test_edges(self):
        self.assertEqual(pick_order((), (), [], "A", ()), [])
        self.assertEqual(pick_order((3, 1), (0, 1), [("B", 2)], "A", (0, 0)), [])
        self.check_gets(((HUGE, HUGE), (0, 1), [("AB", HUGE)], "A"), (HUGE // 2, HUGE // 2))
        self.check_gets(((HUGE, HUGE), (0, 1), [("A", 2 * HUGE)], "A"), (HUGE, HUGE))

    def test_results_are_new(self):
        order = pick_order((2, 1), (0, 1), [("A", 2)], "A", (1, 1))
        before = list(order)
        order.clear()
        self.assertEqual(pick_order((2, 1), (0, 1), [("A", 2)], "A", (1, 1)), before)

    def test_arguments(self):
        cannot = [((0, 1), CannotHave, 1)]
        right = {**SIDE, "ranking": (1, 0), "bundle": (1, 0)}
        steps = SIDE_STEPS + [("bundle", wrong.wrong_bundle()), ("bundle", cannot)]
        check_arguments(self, pick_order, bundles, right, steps)


class TestCheckOrder(unittest.TestCase):
    def some_order(self, chance, counts, picks):
        """An order with so many picks, of kinds that need not be left."""
        order = []
        while picks:
            number = chance.randint(1, picks)
            order.append((chance.randrange(len(counts)), number))
            picks -= number
        return order

    def test_example(self):
        call = error_of(check_order, (1, 1, 1, 1), (1, 0, 2, 3), [("AB", 2)], "A", [(0, 1), (1, 1)])
        self.assertEqual(call, (InvalidOrder, {"index": 1}))

    def check_as_slow(self, side, order):
        """The function tells the same as single picks do; returns whether they are possible."""
        index = slow_missed(*side, order)
        wanted = (None, None) if index is None else (InvalidOrder, {"index": index})
        self.assertEqual(error_of(check_order, *side, order), wanted)
        return index is None

    def test_any_orders_of_small_games(self):
        chance = chance_of("check order")
        passed = []
        for side in sides("check order", 300):
            for _ in range(8):
                order = self.some_order(chance, side[0], turns_of(side[2], side[3]))
                passed.append(self.check_as_slow(side, order))
        self.assertGreater(passed.count(True), 500)
        self.assertGreater(passed.count(False), 500)

    def test_long_small_games(self):
        # More items of few kinds, so that the opponent comes to the kind of a run in the middle of it.
        chance = chance_of("long order")
        passed = []
        for _ in range(600):
            kinds = chance.randint(1, 3)
            counts = tuple(chance.randint(0, 12) for _ in range(kinds))
            whole = "".join(chance.choice("AAB") for _ in range(chance.randint(0, sum(counts))))
            order = self.some_order(chance, counts, whole.count("A"))
            side = counts, some_list(chance, kinds), [(letter, 1) for letter in whole], "A"
            passed.append(self.check_as_slow(side, order))
        self.assertGreater(passed.count(True), 50)
        self.assertGreater(passed.count(False), 50)

    def test_huge_numbers(self):
        half = HUGE // 2
        game = (HUGE, HUGE), (0, 1), [("AB", HUGE)], "A"
        self.assertIsNone(check_order(*game, [(0, half), (1, half)]))
        self.assertIsNone(check_order(*game, [(0, 1)] * 50 + [(0, half - 50), (1, half - 7)] + [(1, 1)] * 7))
        self.assertIsNone(check_order(*game, [(1, 1), (0, half), (1, half - 1)]))
        self.assertEqual(error_of(check_order, *game, [(1, 2), (0, half), (1, half - 2)]), (InvalidOrder, {"index": 1}))
        self.assertEqual(error_of(check_order, *game, [(0, half + 1), (1, half - 1)]), (InvalidOrder, {"index": 0}))
        self.assertIsNone(check_order(*game, [(1, HUGE)]))

    def test_order_of_large_games_spoilt(self):
        # The last pick of the run gets a kind of which nothing is left then.
        for side in large_sides("spoilt"):
            counts, ranking, sequence, player = side
            bundle = best_bundle(counts, (ranking, ranking), sequence, player)
            order = pick_order(*side, bundle)
            self.assertIsNone(check_order(*side, order))
            kind, number = order[-1]
            gone = order[0][0]
            spoilt = order[:-1] + ([(kind, number - 1)] if number > 1 else []) + [(gone, 1)]
            self.assertEqual(error_of(check_order, *side, spoilt), (InvalidOrder, {"index": len(spoilt) - 1}))

    def test_edges(self):
        self.assertIsNone(check_order((), (), [], "A", []))
        self.assertIsNone(check_order((2,), (0,), [("B", 2)], "A", []))
        self.assertEqual(error_of(check_order, (0, 1), (0, 1), [("A", 1)], "A", [(0, 1)]), (InvalidOrder, {"index": 0}))
        self.assertEqual(error_of(check_order, (), (), [], "A", [(0, 1)]), (InvalidOrder, {"index": 0}))
        self.assertIsNone(check_order((1, 1), (0, 1), [("A", 2)], "A", [(1, 1), (0, 1)]))

    def test_number_of_picks_before_possible_picks(self):
        game = (1, 1), (0, 1), [("A", 2)], "A"
        self.assertEqual(error_of(check_order, *game, [(0, 2)]), (InvalidOrder, {"index": 0}))
        self.assertEqual(error_of(check_order, *game, [(0, 2), (1, 1)]), (InvalidOrder, {"index": 2}))
        self.assertEqual(error_of(check_order, *game, [(0, 2), (2, 1)]), (InvalidOrder, {"index": 1}))

    def test_arguments(self):
        missed = [([(1, 1)], InvalidOrder, 0)]
        steps = SIDE_STEPS + [("order", wrong.wrong_order()), ("order", missed)]
        check_arguments(self, check_order, bundles, {**SIDE, "ranking": (1, 0), "order": [(0, 1)]}, steps)


class TestExchanges(unittest.TestCase):
    def test_example(self):
        found = exchanges((1, 1, 1, 1), (1, 0, 2, 3), [("AB", 2)], "A", (1, 0, 0, 1), 2)
        self.assertEqual(found, [0, 3])

    def test_small_games(self):
        found = 0
        for side in sides("exchanges", 200):
            counts = side[0]
            can = reached(*side)
            for bundle in all_bundles(counts, turns_of(side[2], side[3])):
                for kind in range(len(counts)):
                    if bundle not in can:
                        call = error_of(exchanges, *side, bundle, kind)
                        self.assertEqual(call, (CannotHave, {"prefix": can_have(*side, bundle)}))
                        continue
                    others = [other for other in left_kinds(bundle) if other != kind]
                    wanted = [other for other in others if more(less(bundle, other), kind) in can]
                    self.assertEqual(exchanges(*side, bundle, kind), wanted)
                    found += len(wanted)
        self.assertGreater(found, 200)

    def test_large_games(self):
        chance = chance_of("large exchanges")
        for side in large_sides("large exchanges"):
            counts = side[0]
            bundle = best_value(*side, some_values(chance, 60))[1]
            for kind in range(0, 60, 4):
                others = [other for other in left_kinds(bundle) if other != kind and bundle[kind] < counts[kind]]
                wanted = [other for other in others if can_have(*side, more(less(bundle, other), kind)) is None]
                self.assertEqual(exchanges(*side, bundle, kind), wanted)

    def test_edges(self):
        self.assertEqual(exchanges((1, 2), (0, 1), [("A", 2)], "A", (1, 1), 0), [])
        self.assertEqual(exchanges((1, 2), (0, 1), [("A", 2)], "A", (1, 1), 1), [0])
        self.assertEqual(exchanges((0, 2), (0, 1), [("A", 2)], "A", (0, 2), 0), [])
        self.assertEqual(exchanges((1, 2), (0, 1), [], "A", (0, 0), 1), [])
        self.assertEqual(exchanges((1, 2), (0, 1), [("B", 1)], "A", (0, 0), 1), [])
        self.assertEqual(exchanges((HUGE, HUGE), (0, 1), [("AB", HUGE)], "A", (HUGE // 2, HUGE // 2), 0), [])
        self.assertEqual(exchanges((HUGE, HUGE), (0, 1), [("AB", HUGE)], "A", (HUGE // 2 - 1, HUGE // 2 + 1), 0), [1])

    def test_results_are_new(self):
        found = exchanges((1, 2), (0, 1), [("A", 2)], "A", (1, 1), 1)
        found.append("more")
        self.assertEqual(exchanges((1, 2), (0, 1), [("A", 2)], "A", (1, 1), 1), [0])

    def test_arguments(self):
        right = {**SIDE, "ranking": (1, 0), "bundle": (1, 0), "kind": 0}
        cannot = [((0, 1), CannotHave, 1)]
        steps = SIDE_STEPS + [("bundle", wrong.wrong_bundle()), ("kind", wrong.wrong_kind()), ("bundle", cannot)]
        check_arguments(self, exchanges, bundles, right, steps)
        call = error_of(exchanges, (), (), [], "A", (), 0)
        self.assertEqual(call, (InvalidKind, {"kind": 0}))


class TestBestValue(unittest.TestCase):
    def check_answer(self, side, values, answer):
        self.assertIs(type(answer), tuple)
        most, bundle, prices = answer
        self.assertIs(type(most), int)
        self.assertIs(type(bundle), tuple)
        self.assertIs(type(prices), list)
        self.assertEqual(most, worth(bundle, values))
        self.assertEqual(len(prices), len(values))
        self.assertTrue(all(type(price) is int for price in prices))
        self.assertTrue(all(price >= 0 for price in prices[:-1]))
        self.assertIsNone(can_have(*side, bundle))
        self.assertIsNone(check_value(*side, values, answer))

    def test_example(self):
        answer = best_value((1, 1, 1, 1), (1, 0, 2, 3), [("AB", 2)], "A", [9, 8, 3, 2])
        self.assertEqual(answer[:2], (12, (1, 0, 1, 0)))
        self.check_answer(((1, 1, 1, 1), (1, 0, 2, 3), [("AB", 2)], "A"), [9, 8, 3, 2], answer)

    def test_small_games(self):
        chance = chance_of("values")
        for side in sides("values", 300):
            can = reached(*side)
            for _ in range(4):
                values = some_values(chance, len(side[0]))
                answer = best_value(*side, values)
                self.check_answer(side, values, answer)
                self.assertIn(answer[1], can)
                self.assertEqual(answer[0], max(worth(bundle, values) for bundle in can))
                self.assertEqual(slow_bound(*side, values, answer[2]), answer[0])
                self.assertEqual(answer, best_value(*side, tuple(values)))

    def test_large_games(self):
        chance = chance_of("large values")
        for side in large_sides("large values"):
            for values in [some_values(chance, 60) for _ in range(10)] + [[0] * 60, [-1] * 60, [HUGE] * 60]:
                self.check_answer(side, values, best_value(*side, values))

    def test_values_along_a_list_lead_to_the_best_bundle(self):
        for counts, lists, sequence in many_games("values of a list"):
            for player in "AB":
                own, other = lists["AB".index(player)], lists["BA".index(player)]
                values = [60 - own.index(kind) for kind in range(60)]
                found = best_value(counts, other, sequence, player, values)[1]
                self.assertEqual(found, best_bundle(counts, lists, sequence, player))

    def test_edges(self):
        self.assertEqual(best_value((), (), [], "A", []), (0, (), []))
        self.assertEqual(best_value((), (), (), "B", ()), (0, (), []))
        self.assertEqual(best_value((2, 1), (0, 1), [], "A", [5, -7])[:2], (0, (0, 0)))
        self.assertEqual(best_value((2, 1), (0, 1), [("A", 3)], "A", [-5, -7])[:2], (-17, (2, 1)))
        self.assertEqual(best_value((2, 1), (0, 1), [("B", 3)], "A", [-5, -7])[:2], (0, (0, 0)))
        self.assertEqual(best_value((2, 1), (0, 1), [("BA", 1)], "A", [-5, -7])[:2], (-5, (1, 0)))
        self.assertEqual(best_value((2, 1), (0, 1), [("BA", 1)], "A", [-5 * HUGE, -4 * HUGE])[:2], (-4 * HUGE, (0, 1)))

    def test_results_are_new(self):
        answer = best_value((2, 1), (0, 1), [("BA", 1)], "A", [5, 7])
        before = copy.deepcopy(answer)
        answer[2].append("more")
        self.assertEqual(best_value((2, 1), (0, 1), [("BA", 1)], "A", [5, 7]), before)

    def test_arguments(self):
        steps = SIDE_STEPS + [("values", wrong.wrong_values())]
        check_arguments(self, best_value, bundles, {**SIDE, "values": [5, 7]}, steps)
        for value in [[1], None, "", {}]:
            call = error_of(best_value, (), (), [], "A", value)
            self.assertEqual(call, (InvalidValues, {"index": -1}))


class TestCheckValue(unittest.TestCase):
    def test_example(self):
        self.assertIsNone(check_value((2, 1), (0, 1), [("BA", 1)], "A", [5, 7], (7, (0, 1), [0, 7])))

    def test_other_prices(self):
        for price in (5, 6, 7):
            self.assertIsNone(check_value((2, 1), (0, 1), [("BA", 1)], "A", (5, 7), (7, (0, 1), [0, price])))
        self.assertIsNone(check_value((2,), (0,), [("A", 2)], "A", [-5], (-10, (2,), [-5])))
        self.assertIsNone(check_value((2,), (0,), [("A", 2)], "A", [-5], (-10, (2,), [-9])))
        self.assertIsNone(check_value((), (), [], "A", [], (0, (), [])))

    def slow_misfit(self, side, values, answer, can):
        """The index of the error that an answer of the right shape raises, or None."""
        most, bundle, prices = answer
        if bundle not in can:
            return 0
        if most != worth(bundle, values):
            return 1
        if len(prices) != len(values) or any(price < 0 for price in prices[:-1]):
            return 2
        return None if slow_bound(*side, values, prices) == most else 3

    def test_changed_answers_of_small_games(self):
        chance = chance_of("misfits")
        found = {}
        for side in sides("misfits", 200):
            counts = side[0]
            can = reached(*side)
            for _ in range(12):
                values = [chance.randint(-4, 4) for _ in counts]
                most, bundle, prices = best_value(*side, values)
                way = chance.randrange(4)
                if way == 0:
                    bundle = chance.choice(all_bundles(counts, sum(bundle)))
                    most = worth(bundle, values) if chance.random() < 0.7 else most
                elif way == 1:
                    most += chance.choice([-1, 1])
                elif way == 2:
                    prices = [price + chance.choice([0, 0, -1, 1]) for price in prices]
                else:
                    prices = prices[:chance.randint(0, len(prices))] + [0] * chance.randint(0, 1)
                index = self.slow_misfit(side, values, (most, bundle, prices), can)
                found[index] = found.get(index, 0) + 1
                call = error_of(check_value, *side, values, (most, bundle, prices))
                self.assertEqual(call, (None, None) if index is None else (Misfit, {"index": index}))
        self.assertEqual(set(found), {None, 0, 1, 2, 3})
        self.assertGreater(min(found.values()), 50)

    def test_large_games(self):
        chance = chance_of("large misfits")
        for side in large_sides("large misfits"):
            values = some_values(chance, 60)
            most, bundle, prices = best_value(*side, values)
            self.assertIsNone(check_value(*side, values, (most, bundle, prices)))
            call = error_of(check_value, *side, values, (most - 1, bundle, prices))
            self.assertEqual(call, (Misfit, {"index": 1}))
            dear = prices[:30] + [prices[30] + 10 ** 400] + prices[31:]
            self.assertEqual(error_of(check_value, *side, values, (most, bundle, dear)), (Misfit, {"index": 3}))
            first = left_kinds(side[0])[0]
            spoilt = bundle[:first] + (side[0][first] + 1,) + bundle[first + 1:]
            self.assertEqual(error_of(check_value, *side, values, (most, spoilt, prices)), (Misfit, {"index": 0}))

    def test_answer_stays(self):
        answer = (7, (0, 1), [0, 7])
        check_value((2, 1), (0, 1), [("BA", 1)], "A", [5, 7], answer)
        self.assertEqual(answer, (7, (0, 1), [0, 7]))

    def test_arguments(self):
        right = {**SIDE, "values": [5, 7], "answer": (7, (0, 1), [0, 7])}
        steps = SIDE_STEPS + [("values", wrong.wrong_values()), ("answer", wrong.wrong_answer())]
        check_arguments(self, check_value, bundles, right, steps)


class TestArguments(unittest.TestCase):
    def test_list_and_tuple_are_the_same(self):
        for counts, ranking, sequence, player in sides("both", 60):
            pair = [(counts, ranking, one, player) for one in (sequence, tuple(sequence))]
            self.assertEqual(*[caps(*side) for side in pair])
            values = [3 - kind for kind in range(len(counts))]
            self.assertEqual(*[best_value(*side, values) for side in pair])
            bundle = best_value(*pair[0], values)[1]
            self.assertEqual(*[can_have(*side, bundle) for side in pair])
            self.assertEqual(*[pick_order(*side, bundle) for side in pair])
            self.assertEqual(*[best_bundle(counts, (ranking, ranking), side[2], player) for side in pair])
            if counts:
                self.assertEqual(*[exchanges(*side, bundle, 0) for side in pair])

    def test_mismatch_ahead_of_the_last_arguments(self):
        game = {**SIDE, "sequence": [("A", 4)]}
        for function, named in [
            (can_have, {"bundle": None}), (pick_order, {"bundle": (9, 9)}), (check_order, {"order": ()}),
            (exchanges, {"bundle": (0, 9), "kind": 9}), (best_value, {"values": 5}),
            (check_value, {"values": None, "answer": None}),
        ]:
            check_refused(self, function, {**game, **named}, Mismatch, "sequence")

    def test_players_are_exchanged(self):
        for counts, ranking, sequence, player in sides("exchanged", 60):
            other = [(turns.translate({65: "B", 66: "A"}), times) for turns, times in sequence]
            self.assertEqual(caps(counts, ranking, sequence, player), caps(counts, ranking, other, rival(player)))


if __name__ == "__main__":
    unittest.main()
