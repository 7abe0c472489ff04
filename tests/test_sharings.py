"""Stage 6: compare, common_swap, improved, first_ and last_sequence, is_sequence_of, count_sequences, latest_turns."""

import itertools
import math
import unittest

import wrong
from arguments import check_arguments, check_refused
from helpers import as_good, chance_of, error_of, held, letters, slow_outcome, slow_plain_picks, some_list
from turnpicks import sharings
from turnpicks.bundles import can_have
from turnpicks.errors import InvalidBundle, InvalidList, InvalidLists, TooLarge
from turnpicks.hostile import is_sure
from turnpicks.plain import plain_game
from turnpicks.sharings import common_swap, compare, count_sequences, first_sequence, improved, is_sequence_of
from turnpicks.sharings import last_sequence, latest_turns
from turnpicks.turns import length, turns_among

BIG = 10 ** 30
HUGE = 10 ** 5000
UP = tuple(range(60))
DOWN = UP[::-1]

PAIR = {"lists": ((0, 1), (1, 0)), "sharing": ((1, 0), (1, 2))}
STEPS = [("lists", wrong.wrong_own_lists()), ("sharing", wrong.wrong_sharing())]
TEXT = ((0, 1, 2), (1, 0, 2)), ((2, 0, 1), (0, 1, 1))


def counts_of(sharing):
    """The counts of a sharing."""
    return tuple(map(sum, zip(*sharing)))


def all_parts(counts):
    """All bundles of some of these items."""
    return list(itertools.product(*[range(many + 1) for many in counts]))


def small_sharings(name, many, most_items=7):
    """Sharings of few items, each with two lists."""
    chance = chance_of(name)
    found = [(((), ()), ((), ())), (((0,), (0,)), ((0,), (0,))), (((1, 0), (0, 1)), ((0, 0), (2, 1)))]
    while len(found) < many:
        kinds = chance.randint(2, 6)
        lists = some_list(chance, kinds), some_list(chance, kinds)
        counts = tuple(chance.choice([0, 1, 1, 2, 3]) for _ in range(kinds))
        if 2 <= sum(counts) <= most_items:
            one = chance.choice(all_parts(counts))
            found.append((lists, (one, tuple(there - own for there, own in zip(counts, one)))))
    return found


def large_sharings(name, most=BIG):
    """Sharings of large numbers of 60 kinds, each with two lists."""
    chance = chance_of(name)
    found = []
    for lists in [(UP, UP), (UP, DOWN)] + [(some_list(chance, 60), some_list(chance, 60)) for _ in range(4)]:
        for share in (0.1, 0.5, 0.9):
            held_by_one = [chance.random() < share for _ in range(60)]
            many = [chance.randint(0, most) for _ in range(60)]
            one = tuple(number if own else 0 for number, own in zip(many, held_by_one))
            other = tuple(0 if own else number for number, own in zip(many, held_by_one))
            both = tuple(chance.randint(0, most) for _ in range(60))
            found += [(lists, (one, other)), (lists, (one, both)), (lists, (many_of(chance, most), both))]
    return found


def many_of(chance, most):
    """A bundle with at most so many items of each of 60 kinds."""
    return tuple(chance.choice([0, 1, most, chance.randint(0, most)]) for _ in range(60))


def slow_swaps(lists, sharing):
    """All common swaps."""
    one, other = lists
    return [
        (give, take) for give, take in itertools.product(range(len(one)), repeat=2)
        if sharing[0][give] and sharing[1][take] and one.index(take) < one.index(give)
        and other.index(give) < other.index(take)
    ]


def slow_sequences(lists, sharing):
    """All strings of turns with which the sharing goes, found by playing all of them."""
    counts = counts_of(sharing)
    found = []
    for places in itertools.combinations(range(sum(counts)), sum(sharing[0])):
        turns = "".join("A" if place in places else "B" for place in range(sum(counts)))
        if slow_outcome(counts, slow_plain_picks(counts, lists, [(turn, 1) for turn in turns]))[:2] == sharing:
            found.append(turns)
    return found


def check_blocks(case, sequence):
    """The sequence is a list of blocks of one letter, the letters in turn."""
    case.assertIs(type(sequence), list)
    for block in sequence:
        case.assertIs(type(block), tuple)
        turns, times = block
        case.assertIn(turns, ("A", "B"))
        case.assertTrue(type(times) is int and times >= 1)
    for (turns, _), (behind, _) in zip(sequence, sequence[1:]):
        case.assertNotEqual(turns, behind)


def extreme(found, best):
    """For each number of picks, the greatest or least number of A's turns among them."""
    return [best(turns[:picks].count("A") for turns in found) for picks in range(len(found[0]) + 1)]


class TestCompare(unittest.TestCase):
    def test_examples(self):
        self.assertEqual(compare((0, 1, 2), (1, 0, 1), (0, 2, 0)), "unclear")
        self.assertEqual(compare((0, 1, 2), (1, 0, 1), (0, 1, 1)), "better")
        self.assertEqual(compare((0, 1, 2), (0, 1, 1), (1, 0, 1)), "worse")
        self.assertEqual(compare((0, 1, 2), (0, 1, 1), (0, 1, 1)), "equal")

    def test_small_bundles(self):
        words = {(True, True): "equal", (True, False): "better", (False, True): "worse", (False, False): "unclear"}
        seen = set()
        for kinds in range(4):
            for ranking in itertools.permutations(range(kinds)):
                for one in itertools.product(range(3), repeat=kinds):
                    for other in itertools.product(range(3), repeat=kinds):
                        word = words[as_good(ranking, one, other), as_good(ranking, other, one)]
                        self.assertEqual(compare(ranking, one, other), word)
                        self.assertEqual(word == "equal", one == other)
                        seen.add(word)
        self.assertEqual(len(seen), 4)

    def test_all_values_agree(self):
        chance = chance_of("values")
        for _ in range(300):
            kinds = chance.randint(1, 5)
            ranking = some_list(chance, kinds)
            one, other = [tuple(chance.randint(0, 3) for _ in range(kinds)) for _ in "AB"]
            worths = []
            for prefix in range(1, kinds + 1):
                worths.append(held(one, ranking, prefix) - held(other, ranking, prefix))
            word = compare(ranking, one, other)
            self.assertEqual(word in ("better", "equal"), min(worths) >= 0)
            self.assertEqual(word in ("worse", "equal"), max(worths) <= 0)

    def test_large_bundles(self):
        one = (BIG,) * 60
        for kind in range(60):
            more = one[:kind] + (BIG + 1,) + one[kind + 1:]
            self.assertEqual(compare(UP, more, one), "better")
            self.assertEqual(compare(DOWN, one, more), "worse")
            for other in (0, 30, 59):
                if other != kind:
                    moved = list(more)
                    moved[other] -= 1
                    self.assertEqual(compare(UP, tuple(moved), one), "better" if kind < other else "worse")
                    self.assertEqual(compare(DOWN, tuple(moved), one), "worse" if kind < other else "better")
        self.assertEqual(compare((0, 1), (HUGE, 0), (HUGE - 1, 1)), "better")
        self.assertEqual(compare((0, 1, 2), (0, HUGE, 0), (1, 0, HUGE)), "unclear")

    def test_edges(self):
        self.assertEqual(compare((), (), ()), "equal")
        self.assertEqual(compare((0,), (0,), (0,)), "equal")
        self.assertEqual(compare((0,), (0,), (1,)), "worse")
        self.assertEqual(compare((1, 0), (1, 0), (0, 1)), "worse")

    def test_arguments(self):
        steps = [("ranking", wrong.wrong_own_ranking())]
        steps += [("one", wrong.wrong_compared(0)), ("other", wrong.wrong_compared(1))]
        check_arguments(self, compare, sharings, {"ranking": (0, 1), "one": (1, 0), "other": (0, 1)}, steps)
        check_refused(self, compare, {"ranking": (), "one": (1, 0), "other": (0, 1)}, InvalidBundle, 0)
        check_refused(self, compare, {"ranking": (0, 1, 2), "one": (1, 0, 0), "other": (0, 1)}, InvalidBundle, 1)
        check_refused(self, compare, {"ranking": UP + (60,), "one": None, "other": None}, InvalidList, UP + (60,))


class TestCommonSwap(unittest.TestCase):
    def test_examples(self):
        self.assertEqual(common_swap(((0, 1), (1, 0)), ((0, 1), (1, 0))), (1, 0))
        self.assertIsNone(common_swap(((0, 1), (0, 1)), ((0, 1), (1, 0))))

    def test_all_swaps_of_small_sharings(self):
        several = 0
        for lists, sharing in small_sharings("swaps", 900):
            swaps = slow_swaps(lists, sharing)
            found = common_swap(lists, sharing)
            self.assertEqual(found, min(swaps) if swaps else None)
            self.assertIn(type(found), (tuple, type(None)))
            several += len(swaps) > 1
        self.assertGreater(several, 100)

    def test_none_if_and_only_if_there_is_a_sequence(self):
        for lists, sharing in small_sharings("no swap", 250):
            self.assertEqual(common_swap(lists, sharing) is None, bool(slow_sequences(lists, sharing)))

    def test_large_sharings(self):
        several = 0
        for lists, sharing in large_sharings("large swaps"):
            swaps = slow_swaps(lists, sharing)
            self.assertEqual(common_swap(lists, sharing), min(swaps) if swaps else None)
            several += len(swaps) > 1
        self.assertGreater(several, 20)

    def test_edges(self):
        self.assertIsNone(common_swap(((), ()), ((), ())))
        self.assertIsNone(common_swap(((0, 1), (1, 0)), ((0, 0), (0, 0))))
        self.assertIsNone(common_swap(((0, 1), (1, 0)), ((0, 2), (0, 3))))
        self.assertEqual(common_swap((UP, DOWN), ((0,) * 59 + (1,), (1,) + (0,) * 59)), (59, 0))
        self.assertEqual(common_swap((UP, DOWN), ((0,) * 58 + (HUGE, HUGE), (0,) * 57 + (1, 1, 1))), (58, 57))
        self.assertEqual(common_swap((DOWN, UP), ((HUGE,) * 60, (1,) * 60)), (0, 1))

    def test_arguments(self):
        check_arguments(self, common_swap, sharings, PAIR, STEPS)


class TestImproved(unittest.TestCase):
    def check_result(self, lists, sharing, found):
        self.assertIs(type(found), tuple)
        self.assertTrue(all(type(bundle) is tuple and min(bundle, default=0) >= 0 for bundle in found))
        self.assertEqual(counts_of(found), counts_of(sharing))
        self.assertIsNone(common_swap(lists, found))
        for own in (0, 1):
            self.assertIn(compare(lists[own], found[own], sharing[own]), ("equal", "better"))

    def test_example(self):
        self.assertEqual(improved(((0, 1), (1, 0)), ((0, 3), (2, 0))), ((2, 1), (0, 2)))

    def test_small_sharings(self):
        changed = 0
        for lists, sharing in small_sharings("improved", 900, 12):
            found = improved(lists, sharing)
            self.check_result(lists, sharing, found)
            if common_swap(lists, sharing) is None:
                self.assertEqual(found, sharing)
            changed += found != sharing
        self.assertGreater(changed, 300)

    def test_the_only_one(self):
        for lists, sharing in small_sharings("only one", 200):
            counts = counts_of(sharing)
            if common_swap(lists, sharing) is None:
                right = []
                for one in all_parts(counts):
                    pair = one, tuple(there - own for there, own in zip(counts, one))
                    if all(as_good(lists[own], pair[own], sharing[own]) for own in (0, 1)):
                        right.append(pair)
                self.assertEqual(right, [improved(lists, sharing)])

    def test_large_sharings(self):
        for lists, sharing in large_sharings("large improved"):
            found = improved(lists, sharing)
            self.check_result(lists, sharing, found)
            self.assertEqual(improved(lists, found), found)

    def test_edges(self):
        self.assertEqual(improved(((), ()), ((), ())), ((), ()))
        self.assertEqual(improved(((0,), (0,)), ((HUGE,), (0,))), ((HUGE,), (0,)))
        self.assertEqual(improved(((0, 1), (1, 0)), ((0, HUGE), (HUGE, 0))), ((HUGE, 0), (0, HUGE)))
        self.assertEqual(improved((UP, DOWN), ((0,) * 30 + (BIG,) * 30, (BIG,) * 30 + (0,) * 30)),
                         ((BIG,) * 30 + (0,) * 30, (0,) * 30 + (BIG,) * 30))

    def test_arguments(self):
        check_arguments(self, improved, sharings, PAIR, STEPS)


class TestFirstAndLastSequence(unittest.TestCase):
    def test_examples(self):
        self.assertEqual(first_sequence(*TEXT), [("A", 2), ("B", 1), ("A", 1), ("B", 1)])
        self.assertEqual(last_sequence(*TEXT), [("B", 1), ("A", 2), ("B", 1), ("A", 1)])

    def test_all_sequences_of_small_sharings(self):
        several = 0
        for lists, sharing in small_sharings("first and last", 350):
            first = first_sequence(lists, sharing)
            last = last_sequence(lists, sharing)
            found = slow_sequences(lists, sharing)
            if not found:
                self.assertIsNone(first)
                self.assertIsNone(last)
                continue
            check_blocks(self, first)
            check_blocks(self, last)
            self.assertIn(letters(first), found)
            self.assertIn(letters(last), found)
            self.assertEqual(extreme([letters(first)], max), extreme(found, max))
            self.assertEqual(extreme([letters(last)], max), extreme(found, min))
            several += len(found) > 1
        self.assertGreater(several, 100)

    def test_a_sequence_goes_with_it_if_it_lies_between(self):
        for lists, sharing in small_sharings("between", 120, 6):
            if common_swap(lists, sharing) is None:
                first = extreme([letters(first_sequence(lists, sharing))], max)
                last = extreme([letters(last_sequence(lists, sharing))], max)
                found = slow_sequences(lists, sharing)
                for turns in map("".join, itertools.product("AB", repeat=len(first) - 1)):
                    here = extreme([turns], max)
                    between = all(low <= many <= high for low, many, high in zip(last, here, first))
                    self.assertEqual(between, turns in found)

    def test_large_sharings(self):
        blocks = 0
        for lists, old in large_sharings("large first and last"):
            sharing = improved(lists, old)
            for sequence in (first_sequence(lists, sharing), last_sequence(lists, sharing)):
                check_blocks(self, sequence)
                self.assertLessEqual(len(sequence), 200)
                self.assertEqual(plain_game(counts_of(sharing), lists, sequence), (*sharing, (0,) * 60))
                blocks = max(blocks, len(sequence))
            if sharing != old:
                self.assertIsNone(first_sequence(lists, old))
                self.assertIsNone(last_sequence(lists, old))
        self.assertGreater(blocks, 40)

    def test_no_turn_of_a_large_sharing_can_be_moved_on(self):
        for lists, old in large_sharings("moved"):
            sharing = improved(lists, old)
            for letter, sequence in (("A", first_sequence(lists, sharing)), ("B", last_sequence(lists, sharing))):
                for at in range(len(sequence) - 1):
                    if sequence[at][0] != letter:
                        # One turn of the earlier player comes ahead of the turns that it stands behind.
                        moved = sequence[:at] + [(sequence[at][0], sequence[at][1] - 1)] + [(letter, 1)]
                        moved += [(sequence[at][0], 1), (letter, sequence[at + 1][1] - 1)] + sequence[at + 2:]
                        moved = [block for block in moved if block[1]]
                        self.assertFalse(is_sequence_of(lists, sharing, moved))

    def test_equal_lists_have_one_order_of_kinds(self):
        sharing = tuple(BIG * (kind % 2) for kind in UP), tuple(BIG * (1 - kind % 2) for kind in UP)
        self.assertEqual(first_sequence((UP, UP), sharing), [("B", BIG), ("A", BIG)] * 30)
        self.assertEqual(last_sequence((UP, UP), sharing), [("B", BIG), ("A", BIG)] * 30)
        self.assertEqual(first_sequence((UP, UP), ((BIG,) * 60, (BIG,) * 60)), [("A", BIG), ("B", BIG)] * 60)
        self.assertEqual(last_sequence((UP, UP), ((BIG,) * 60, (BIG,) * 60)), [("B", BIG), ("A", BIG)] * 60)

    def test_edges(self):
        for function in (first_sequence, last_sequence):
            self.assertEqual(function(((), ()), ((), ())), [])
            self.assertEqual(function(((0, 1), (1, 0)), ((0, 0), (0, 0))), [])
            self.assertEqual(function(((0,), (0,)), ((HUGE,), (0,))), [("A", HUGE)])
            self.assertEqual(function(((0, 1), (1, 0)), ((0, 0), (3, 2))), [("B", 5)])
            self.assertIsNone(function(((0, 1), (1, 0)), ((0, 1), (1, 0))))
        self.assertEqual(first_sequence(((0,), (0,)), ((2,), (3,))), [("A", 2), ("B", 3)])
        self.assertEqual(last_sequence(((0,), (0,)), ((2,), (3,))), [("B", 3), ("A", 2)])

    def test_results_are_new(self):
        for function in (first_sequence, last_sequence):
            found = function(*TEXT)
            before = list(found)
            found.append("more")
            self.assertEqual(function(*TEXT), before)

    def test_arguments(self):
        check_arguments(self, first_sequence, sharings, PAIR, STEPS)
        check_arguments(self, last_sequence, sharings, PAIR, STEPS)


class TestIsSequenceOf(unittest.TestCase):
    def test_example(self):
        self.assertIs(is_sequence_of(*TEXT, [("AB", 2), ("A", 1)]), True)

    def test_all_sequences_of_small_sharings(self):
        right = 0
        for lists, sharing in small_sharings("is sequence", 150, 6):
            found = slow_sequences(lists, sharing)
            for turns in map("".join, itertools.product("AB", repeat=sum(counts_of(sharing)))):
                blocks = [(turn, 1) for turn in turns]
                self.assertIs(is_sequence_of(lists, sharing, blocks), turns in found)
                self.assertIs(is_sequence_of(lists, sharing, tuple(blocks)), turns in found)
                right += turns in found
        self.assertGreater(right, 200)

    def test_another_length(self):
        self.assertIs(is_sequence_of(((0,), (0,)), ((2,), (1,)), [("AAB", 1)]), True)
        for turns in ("AA", "AAA", "AAAB", "AABB"):
            self.assertIs(is_sequence_of(((0,), (0,)), ((2,), (1,)), [(turns, 1)]), False)
        self.assertIs(is_sequence_of(((0,), (0,)), ((2,), (1,)), []), False)
        self.assertIs(is_sequence_of(((0,), (0,)), ((2,), (1,)), [("AAB", HUGE)]), False)
        self.assertIs(is_sequence_of(((), ()), ((), ()), [("A", 1)]), False)

    def test_large_sharings(self):
        for lists, old in large_sharings("large is sequence"):
            sharing = improved(lists, old)
            for sequence in (first_sequence(lists, sharing), last_sequence(lists, sharing)):
                self.assertIs(is_sequence_of(lists, sharing, sequence), True)
                self.assertIs(is_sequence_of(lists, sharing, sequence + [("A", 1)]), False)
                (turns, times), *others = sequence
                other = [("BA"["AB".index(turns)], times)] + others
                self.assertIs(is_sequence_of(lists, sharing, other), False)
                if sharing != old:
                    self.assertIs(is_sequence_of(lists, old, sequence), False)

    def test_200_blocks(self):
        sequence = [("ABBABAABBAABABBABAAB", BIG + at) for at in range(200)]
        many = length(sequence)
        sharing = (many // 2,), (many // 2,)
        self.assertIs(is_sequence_of(((0,), (0,)), sharing, sequence), True)
        self.assertIs(is_sequence_of(((0,), (0,)), ((many // 2 + 1,), (many // 2 - 1,)), sequence), False)
        counts = (many // 60,) * 59 + (many - many // 60 * 59,)
        one, other, left = plain_game(counts, (UP, DOWN), sequence)
        self.assertEqual(sum(left), 0)
        self.assertIs(is_sequence_of((UP, DOWN), (one, other), sequence), True)
        self.assertIs(is_sequence_of((UP, DOWN), (other, one), sequence), False)

    def test_edges(self):
        self.assertIs(is_sequence_of(((), ()), ((), ()), []), True)
        self.assertIs(is_sequence_of(((0, 1), (1, 0)), ((0, 0), (0, 0)), ()), True)
        self.assertIs(is_sequence_of(((0, 1), (1, 0)), ((0, 1), (1, 0)), [("AB", 1)]), False)

    def test_arguments(self):
        right = {**PAIR, "sequence": [("AB", 1), ("B", 2)]}
        check_arguments(self, is_sequence_of, sharings, right, STEPS + [("sequence", wrong.wrong_sequence())])


class TestCountSequences(unittest.TestCase):
    def test_example(self):
        self.assertEqual(count_sequences(*TEXT), 6)

    def test_all_sequences_of_small_sharings(self):
        none = 0
        for lists, sharing in small_sharings("count", 350):
            found = len(slow_sequences(lists, sharing))
            self.assertEqual(count_sequences(lists, sharing), found)
            none += found == 0
        self.assertGreater(none, 30)

    def test_one_kind(self):
        for one, other in ((0, 0), (0, 200), (200, 0), (1, 199), (100, 100), (77, 33)):
            self.assertEqual(count_sequences(((0,), (0,)), ((one,), (other,))), math.comb(one + other, one))

    def test_own_kinds_only(self):
        self.assertEqual(count_sequences(((0, 1), (1, 0)), ((100, 0), (0, 100))), math.comb(200, 100))
        self.assertEqual(count_sequences(((0, 1), (0, 1)), ((100, 0), (0, 100))), 1)
        self.assertEqual(count_sequences(((0, 1), (1, 0)), ((0, 100), (100, 0))), 0)
        self.assertEqual(count_sequences((UP, UP), ((1,) * 60, (1,) * 60)), 2 ** 60)

    def test_200_items_and_no_more(self):
        chance = chance_of("200 items")
        for _ in range(20):
            kinds = chance.randint(1, 60)
            lists = some_list(chance, kinds), some_list(chance, kinds)
            one, other = [0] * kinds, [0] * kinds
            for _ in range(200):
                chance.choice([one, other])[chance.randrange(kinds)] += 1
            sharing = improved(lists, (tuple(one), tuple(other)))
            self.assertGreaterEqual(count_sequences(lists, sharing), 1)
            self.assertEqual(count_sequences(lists, sharing) == 1,
                             first_sequence(lists, sharing) == last_sequence(lists, sharing))
            for old in (sharing, (tuple(one), tuple(other))):
                more = (old[0][0] + 1,) + old[0][1:], old[1]
                self.assertEqual(error_of(count_sequences, lists, more), (TooLarge, {"limit": 200}))

    def test_exchanged_players(self):
        for lists, sharing in small_sharings("exchanged", 100, 20):
            self.assertEqual(count_sequences(lists, sharing), count_sequences(lists[::-1], sharing[::-1]))

    def test_edges(self):
        self.assertEqual(count_sequences(((), ()), ((), ())), 1)
        self.assertEqual(count_sequences(((0, 1), (1, 0)), ((0, 0), (0, 0))), 1)
        call = error_of(count_sequences, ((0, 1), (1, 0)), ((0, 100), (101, 0)))
        self.assertEqual(call, (TooLarge, {"limit": 200}))
        call = error_of(count_sequences, (UP, DOWN), ((HUGE,) * 60, (HUGE,) * 60))
        self.assertEqual(call, (TooLarge, {"limit": 200}))

    def test_arguments(self):
        too_large = [(((200, 0), (0, 1)), TooLarge, 200), (((0, HUGE), (1, 0)), TooLarge, 200)]
        check_arguments(self, count_sequences, sharings, PAIR, STEPS + [("sharing", too_large)])


class TestLatestTurns(unittest.TestCase):
    RIGHT = {"counts": (2, 1), "ranking": (0, 1), "player": "A", "wanted": (1, 1)}

    def early_enough(self, counts, ranking, wanted, turns, player):
        return all(turns[:held(counts, ranking, prefix)].count(player) >= held(wanted, ranking, prefix)
                   for prefix in range(1, len(counts) + 1))

    def test_examples(self):
        self.assertEqual(latest_turns((2, 3), (0, 1), "A", (1, 1)), [("B", 1), ("A", 1), ("B", 2), ("A", 1)])
        call = error_of(latest_turns, (2, 3), (0, 1), "A", (3, 0))
        self.assertEqual(call, (InvalidBundle, {"index": 0}))

    def test_all_sequences_of_small_counts(self):
        chance = chance_of("latest")
        for _ in range(150):
            kinds = chance.randint(0, 4)
            counts = tuple(chance.choice([0, 1, 2, 3]) for _ in range(kinds))
            ranking = some_list(chance, kinds)
            if sum(counts) > 9:
                continue
            wanted = chance.choice(all_parts(counts))
            player = chance.choice("AB")
            found = latest_turns(counts, ranking, player, wanted)
            check_blocks(self, found)
            right = []
            for turns in map("".join, itertools.product("AB", repeat=sum(counts))):
                if turns.count(player) == sum(wanted) and self.early_enough(counts, ranking, wanted, turns, player):
                    right.append(turns)
            self.assertIn(letters(found), right)
            for picks in range(sum(counts) + 1):
                least = min(turns[:picks].count(player) for turns in right)
                self.assertEqual(letters(found)[:picks].count(player), least)

    def test_large_counts(self):
        chance = chance_of("large latest")
        for most in (3, BIG, HUGE):
            counts = many_of(chance, most)
            wanted = tuple(chance.choice([0, many, chance.randint(0, many)]) for many in counts)
            ranking = some_list(chance, 60)
            for player in "AB":
                found = latest_turns(counts, ranking, player, wanted)
                check_blocks(self, found)
                self.assertLessEqual(len(found), 120)
                self.assertEqual(length(found), sum(counts))
                self.assertEqual(turns_among(found, player, sum(counts)), sum(wanted))
                self.assertIsNone(can_have(counts, ranking, found, player, wanted))
                sums = [held(wanted, ranking, prefix) for prefix in range(1, 61)]
                self.assertIs(is_sure(counts, ranking, found, player, sums), True)
                for prefix in range(1, 61):
                    picks = held(counts, ranking, prefix)
                    self.assertEqual(turns_among(found, player, picks), sums[prefix - 1])

    def test_edges(self):
        self.assertEqual(latest_turns((), (), "A", ()), [])
        self.assertEqual(latest_turns((0, 0), (1, 0), "B", (0, 0)), [])
        self.assertEqual(latest_turns((2, HUGE), (1, 0), "A", (0, 0)), [("B", HUGE + 2)])
        self.assertEqual(latest_turns((2, HUGE), (1, 0), "B", (2, HUGE)), [("B", HUGE + 2)])
        self.assertEqual(latest_turns((2, 0, 2), (0, 1, 2), "B", (2, 0, 1)), [("B", 2), ("A", 1), ("B", 1)])
        self.assertEqual(latest_turns((BIG,) * 60, UP, "A", (BIG // 2,) * 60), [("B", BIG // 2), ("A", BIG // 2)] * 60)

    def test_results_are_new(self):
        found = latest_turns(**self.RIGHT)
        before = list(found)
        found.append("more")
        self.assertEqual(latest_turns(**self.RIGHT), before)

    def test_arguments(self):
        check_arguments(self, latest_turns, sharings, self.RIGHT, [
            ("counts", wrong.wrong_counts()), ("ranking", wrong.wrong_ranking()), ("player", wrong.wrong_player()),
            ("wanted", wrong.wrong_part()),
        ])


class TestNumberOfKinds(unittest.TestCase):
    def test_it_is_that_of_the_first_list(self):
        for function in (common_swap, improved, first_sequence, last_sequence, count_sequences):
            self.assertEqual(error_of(function, (UP, UP + (60,)), None), (InvalidLists, {"index": 1}))
            self.assertEqual(error_of(function, (UP + (60,), UP + (60,)), None), (InvalidLists, {"index": 0}))
            self.assertEqual(error_of(function, ((0, 0), (0,)), None), (InvalidLists, {"index": 0}))
            self.assertIsNot(error_of(function, (UP, DOWN), ((1,) * 60, (0,) * 60))[0], InvalidLists)


if __name__ == "__main__":
    unittest.main()
