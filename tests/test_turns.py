"""Stage 1: length, turns_among, pick_time, reversed_sequence, exchanged_sequence, rest_of, first_difference."""

import inspect
import unittest

import wrong
from helpers import chance_of, divided, error_of, letters, same, slow_difference, some_sequence
from turnpicks import turns
from turnpicks.errors import InvalidNumber, InvalidPlayer, InvalidSequence, TooLarge
from turnpicks.turns import exchanged_sequence, first_difference, length, pick_time, rest_of
from turnpicks.turns import reversed_sequence, turns_among

BIG = 10 ** 30
HUGE = 10 ** 5000
MANY = [("ABBABAABBAABABBABAAB", BIG + at) for at in range(200)]

# The bounds of a sequence, in both forms.
LONG = [("AB" * 10, 10 ** 9 + at) for at in range(200)]
LONG_FORMS = LONG, tuple(LONG)

# Each function with right arguments, and for each argument the wrong values.
CALLS = [
    (length, {"sequence": [("A", 1)]}, {"sequence": wrong.wrong_sequence()}),
    (turns_among, {"sequence": [("A", 1)], "player": "A", "picks": 1},
     {"sequence": wrong.wrong_sequence(), "player": wrong.wrong_player(), "picks": wrong.wrong_number("picks", 0)}),
    (pick_time, {"sequence": [("A", 1)], "player": "A", "number": 1},
     {"sequence": wrong.wrong_sequence(), "player": wrong.wrong_player(), "number": wrong.wrong_number("number", 1)}),
    (reversed_sequence, {"sequence": [("A", 1)]}, {"sequence": wrong.wrong_sequence()}),
    (exchanged_sequence, {"sequence": [("A", 1)]}, {"sequence": wrong.wrong_sequence()}),
    (rest_of, {"sequence": [("A", 1)], "picks": 1},
     {"sequence": wrong.wrong_sequence(), "picks": wrong.wrong_number("picks", 0)}),
    (first_difference, {"one": [("A", 1)], "other": [("A", 1)]},
     {"one": wrong.wrong_sequence(), "other": wrong.wrong_sequence()}),
]


def small_sequences():
    chance = chance_of("turns")
    return [[]] + [some_sequence(chance, 5, 5, 4) for _ in range(150)]


class TestLength(unittest.TestCase):
    def test_examples(self):
        self.assertEqual(length([("ABBA", 2), ("A", 1)]), 9)
        self.assertEqual(error_of(length, [("ABC", 1)]), (InvalidSequence, {"index": 0}))

    def test_single_picks(self):
        for sequence in small_sequences():
            self.assertEqual(length(sequence), len(letters(sequence)))

    def test_edges(self):
        self.assertEqual(length([]), 0)
        self.assertEqual(length(()), 0)
        self.assertEqual(length([("A" * 20, 1)]), 20)
        self.assertEqual(length([("AB", BIG)]), 2 * BIG)
        self.assertEqual(length([("B" * 20, HUGE)] * 200), 4000 * HUGE)
        self.assertEqual(length(MANY), 4000 * BIG + 20 * 199 * 100)


class TestTurnsAmong(unittest.TestCase):
    def test_example(self):
        self.assertEqual(turns_among([("ABBA", 2), ("A", 1)], "B", 6), 3)

    def test_single_picks(self):
        for sequence in small_sequences():
            whole = letters(sequence)
            for picks in range(len(whole) + 3):
                for player in "AB":
                    self.assertEqual(turns_among(sequence, player, picks), whole[:picks].count(player))

    def test_edges(self):
        self.assertEqual(turns_among([], "A", 0), 0)
        self.assertEqual(turns_among([], "A", HUGE), 0)
        self.assertEqual(turns_among([("AAB", HUGE)], "A", 3 * HUGE), 2 * HUGE)
        self.assertEqual(turns_among([("AAB", HUGE)], "A", 3 * HUGE - 1), 2 * HUGE)
        self.assertEqual(turns_among([("AAB", HUGE)], "A", 3 * HUGE - 2), 2 * HUGE - 1)
        self.assertEqual(turns_among([("AAB", HUGE)], "B", 3 * HUGE - 1), HUGE - 1)
        self.assertEqual(turns_among([("AAB", BIG)], "B", HUGE), BIG)
        self.assertEqual(turns_among([("A", BIG), ("B", BIG)], "B", BIG), 0)
        self.assertEqual(turns_among([("A", BIG), ("B", BIG)], "B", BIG + 1), 1)
        self.assertEqual(turns_among(MANY, "A", HUGE), length(MANY) // 2)

    def test_both_players_have_all_picks(self):
        chance = chance_of("among")
        for _ in range(100):
            picks = chance.randint(0, length(MANY))
            self.assertEqual(turns_among(MANY, "A", picks) + turns_among(MANY, "B", picks), picks)


class TestPickTime(unittest.TestCase):
    def test_example(self):
        self.assertEqual([pick_time([("ABBA", 2)], "B", 3), pick_time([("ABBA", 2)], "B", 5)], [6, None])

    def test_single_picks(self):
        for sequence in small_sequences():
            for player in "AB":
                places = [place + 1 for place, letter in enumerate(letters(sequence)) if letter == player]
                found = [pick_time(sequence, player, number + 1) for number in range(len(places) + 2)]
                self.assertEqual(found, places + [None, None])

    def test_edges(self):
        self.assertIsNone(pick_time([], "A", 1))
        self.assertIsNone(pick_time([("B", HUGE)], "A", 1))
        self.assertEqual(pick_time([("B", HUGE), ("A", 1)], "A", 1), HUGE + 1)
        self.assertEqual(pick_time([("BAA", HUGE)], "A", 2 * HUGE), 3 * HUGE)
        self.assertEqual(pick_time([("BAA", HUGE)], "A", 2 * HUGE - 1), 3 * HUGE - 1)
        self.assertEqual(pick_time([("BAA", HUGE)], "A", 2 * HUGE - 2), 3 * HUGE - 3)
        self.assertIsNone(pick_time([("BAA", HUGE)], "A", 2 * HUGE + 1))
        self.assertIsNone(pick_time([("BAA", BIG)], "A", HUGE))

    def test_goes_with_turns_among(self):
        chance = chance_of("time")
        for _ in range(100):
            number = chance.randint(1, length(MANY) // 2)
            for player in "AB":
                time = pick_time(MANY, player, number)
                self.assertEqual(turns_among(MANY, player, time), number)
                self.assertEqual(turns_among(MANY, player, time - 1), number - 1)


class Test200Blocks(unittest.TestCase):
    def test_answers(self):
        for sequence in LONG_FORMS:
            self.assertEqual(length(sequence), 4000000398000)
            self.assertEqual(turns_among(sequence, "A", 10 ** 12), 500000000000)
            self.assertEqual(pick_time(sequence, "B", 1900000000000), 3800000000000)

    def test_at_the_ends_of_blocks(self):
        for sequence in LONG_FORMS:
            end = 0
            for at in range(200):
                end += 20 * (10 ** 9 + at)
                self.assertEqual(turns_among(sequence, "A", end), end // 2)
                self.assertEqual(turns_among(sequence, "A", end - 1), end // 2)
                self.assertEqual(turns_among(sequence, "B", end - 1), end // 2 - 1)
                self.assertEqual(pick_time(sequence, "B", end // 2), end)
                self.assertEqual(pick_time(sequence, "A", end // 2), end - 1)
                after = end + 1 if at < 199 else None
                self.assertEqual(pick_time(sequence, "A", end // 2 + 1), after)
            self.assertEqual(turns_among(sequence, "B", end + 5), end // 2)

    def test_a_wrong_block_at_any_place(self):
        blocks = [None, ["AB", 1], ("AB" * 10 + "A", 1), ("AB" * 9 + "AC", 1), ("", 1), ("AB", 0), ("AB", True),
                  ("AB", "1"), (b"AB", 1), ("AB", 1, 1), ("ab", 1), ("A" * 9 + "C" + "A" * 9, 1)]
        for at in (0, 1, 100, 198, 199):
            for block in blocks:
                wrong_one = LONG[:at] + [block] + LONG[at + 1:]
                for sequence in (wrong_one, tuple(wrong_one), wrong_one[:at + 1] + [None] * (199 - at)):
                    for function, more in ((length, []), (turns_among, ["C", -1]), (pick_time, ["C", 0])):
                        call = error_of(function, sequence, *more)
                        self.assertEqual(call, (InvalidSequence, {"index": at}))

    def test_201_blocks(self):
        for sequence in (LONG + LONG[:1], tuple(LONG) + (None,)):
            for function, more in ((length, []), (turns_among, ["A", 1]), (pick_time, ["A", 1])):
                self.assertEqual(error_of(function, sequence, *more), (InvalidSequence, {"index": -1}))


class TestOtherOrders(unittest.TestCase):
    def test_examples(self):
        self.assertEqual(reversed_sequence([("AAB", 2), ("B", 3)]), [("B", 3), ("BAA", 2)])
        self.assertEqual(exchanged_sequence([("AAB", 2)]), [("BBA", 2)])

    def test_single_picks(self):
        for sequence in small_sequences():
            whole = letters(sequence)
            self.assertEqual(letters(reversed_sequence(sequence)), whole[::-1])
            self.assertEqual(letters(exchanged_sequence(sequence)), whole.translate({65: "B", 66: "A"}))

    def test_the_same_blocks(self):
        for sequence in small_sequences():
            back = [(string[::-1], times) for string, times in sequence][::-1]
            self.assertEqual(reversed_sequence(sequence), back)
            self.assertEqual([times for _, times in exchanged_sequence(sequence)], [times for _, times in sequence])
            for (one, _), (other, _) in zip(exchanged_sequence(sequence), sequence):
                self.assertEqual(one, other.translate({65: "B", 66: "A"}))

    def test_edges(self):
        for function in (reversed_sequence, exchanged_sequence):
            self.assertEqual(function([]), [])
            self.assertEqual(function(()), [])
            self.assertEqual(function(function(MANY)), MANY)
            self.assertEqual(function(function(tuple(MANY))), MANY)
        self.assertEqual(reversed_sequence([("A" * 19 + "B", HUGE)]), [("B" + "A" * 19, HUGE)])
        self.assertEqual(exchanged_sequence([("A" * 19 + "B", HUGE)]), [("B" * 19 + "A", HUGE)])


class TestRestOf(unittest.TestCase):
    def check(self, sequence, picks, wanted):
        rest = rest_of(sequence, picks)
        self.assertIs(type(rest), list)
        self.assertLessEqual(len(rest), 200)
        self.assertEqual(length(rest), length(sequence) - picks)
        self.assertIsNone(first_difference(rest, wanted))

    def test_example(self):
        self.assertIsNone(first_difference(rest_of([("AB", 3)], 1), [("BA", 2), ("B", 1)]))

    def test_single_picks(self):
        for sequence in small_sequences():
            whole = letters(sequence)
            for picks in range(len(whole) + 1):
                self.assertEqual(letters(rest_of(sequence, picks)), whole[picks:])

    def test_edges(self):
        self.assertEqual(rest_of([], 0), [])
        self.assertEqual(rest_of((), 0), [])
        self.check([("AAB", HUGE)], 0, [("AAB", HUGE)])
        self.check([("AAB", HUGE)], 3 * HUGE, [])
        self.check([("AAB", HUGE)], 3 * HUGE - 1, [("B", 1)])
        self.check([("AAB", HUGE)], 3 * HUGE - 4, [("B", 1), ("AAB", 1)])
        self.check([("AAB", HUGE)], 3 * BIG, [("AAB", HUGE - BIG)])
        self.check([("AAB", HUGE)], 3 * BIG + 1, [("ABA", HUGE - BIG - 1), ("AB", 1)])
        self.check([("A", BIG), ("AB", BIG), ("B", 1)], BIG + 1, [("BA", BIG - 1), ("B", 2)])

    def test_199_blocks_are_cut_everywhere(self):
        sequence = MANY[1:]
        for picks in (0, 1, 20, BIG, length(sequence) - 1, length(sequence)):
            rest = rest_of(sequence, picks)
            self.assertLessEqual(len(rest), 200)
            self.assertEqual(length(rest), length(sequence) - picks)
            for player in "AB":
                gone = turns_among(sequence, player, picks)
                for more in (0, 1, 7, BIG, 20 * BIG + 3, HUGE):
                    together = turns_among(sequence, player, picks + more)
                    self.assertEqual(turns_among(rest, player, more), together - gone)

    def test_200_blocks_are_too_many(self):
        short = [("A", 1)] * 200
        for sequence in (MANY, short, tuple(short)):
            for picks in (0, 1, length(sequence)):
                self.assertEqual(error_of(rest_of, sequence, picks), (TooLarge, {"limit": 199}))
            for picks in (-1, length(sequence) + 1, True, None):
                self.assertEqual(error_of(rest_of, sequence, picks), (InvalidNumber, {"name": "picks"}))

    def test_beyond_the_length(self):
        for sequence in ([], [("AB", 3)], [("AB", 3), ("A", HUGE)]):
            for more in (1, HUGE):
                call = error_of(rest_of, sequence, length(sequence) + more)
                self.assertEqual(call, (InvalidNumber, {"name": "picks"}))


class TestFirstDifference(unittest.TestCase):
    def test_examples(self):
        self.assertEqual(first_difference([("AB", 3)], [("ABAB", 1), ("AA", 1)]), 6)
        self.assertEqual(first_difference([("AB", 3)], [("AB", 2)]), 5)

    def test_single_picks(self):
        sequences = small_sequences()
        for one in sequences[::3]:
            for other in sequences[::2]:
                self.assertEqual(first_difference(one, other), slow_difference(letters(one), letters(other)))

    def test_however_divided(self):
        chance = chance_of("divided")
        for sequence in small_sequences():
            whole = letters(sequence)
            other = divided(chance, whole)
            self.assertIsNone(first_difference(sequence, other))
            self.assertIsNone(first_difference(other, tuple(sequence)))
            if whole:
                place = chance.randrange(len(whole))
                changed = whole[:place] + "BA"["AB".index(whole[place])] + whole[place + 1:]
                self.assertEqual(first_difference(divided(chance, changed), sequence), place + 1)

    def test_edges(self):
        self.assertIsNone(first_difference([], ()))
        self.assertEqual(first_difference([], [("B", HUGE)]), 1)
        self.assertEqual(first_difference([("B", HUGE)], []), 1)
        self.assertEqual(first_difference([("B", HUGE)], [("B", HUGE - 1)]), HUGE)
        self.assertEqual(first_difference([("B", HUGE)], [("B", HUGE - 1), ("A", 1)]), HUGE)
        self.assertIsNone(first_difference([("B", HUGE)], [("B", HUGE - 1), ("B", 1)]))
        self.assertEqual(first_difference([("A", 1)], [("B", 1)]), 1)

    def test_long_blocks_of_different_lengths(self):
        self.assertIsNone(first_difference([("AB", 3 * HUGE)], [("ABABAB", HUGE)]))
        self.assertIsNone(first_difference([("AB" * 10, 9 * BIG)], [("AB" * 9, 10 * BIG)]))
        self.assertIsNone(first_difference([("A" * 20, 19 * BIG)], [("A" * 19, 20 * BIG)]))
        self.assertIsNone(first_difference([("A", 1), ("BA", 9 * BIG)], [("ABABAB", 3 * BIG), ("A", 1)]))
        self.assertEqual(first_difference([("A", 1), ("BA", BIG)], [("AB", BIG), ("B", 1)]), 2 * BIG + 1)
        self.assertEqual(first_difference([("A" * 20, 19 * BIG)], [("A" * 19, 20 * BIG), ("B", 1)]), 380 * BIG + 1)
        self.assertEqual(first_difference([("ABA", BIG)], [("ABAABA", BIG // 2), ("A", 1)]), 3 * BIG + 1)

    def test_different_periods_that_agree_long(self):
        # These agree as long as periods of 19 and 20 can before they must be the same for ever.
        one, other = "A" * 18 + "B", "A" * 18 + "BA"
        self.assertEqual(slow_difference(one * 9, other * 9), 38)
        self.assertEqual(first_difference([(one, BIG)], [(other, BIG)]), 38)
        self.assertEqual(first_difference([("B", HUGE), (one, BIG)], [("B", HUGE), (other, BIG)]), HUGE + 38)

    def test_200_blocks_against_others(self):
        divided_otherwise = []
        for turns_of_block, times in MANY[:66]:
            head, tail = turns_of_block[:7], turns_of_block[7:]
            divided_otherwise += [(head, 1), (tail + head, times - 1), (tail, 1)]
        self.assertIsNone(first_difference(MANY[:66], divided_otherwise))
        self.assertEqual(first_difference(MANY, divided_otherwise), length(MANY[:66]) + 1)
        changed = divided_otherwise[:-1] + [("ABAABBABAABAA", 1)]
        self.assertEqual(len(changed[-1][0]), 13)
        place = slow_difference(changed[-1][0], divided_otherwise[-1][0])
        self.assertEqual(first_difference(changed, MANY), length(divided_otherwise[:-1]) + place)


class TestArguments(unittest.TestCase):
    def test_names_and_place(self):
        for function, right, _ in CALLS:
            self.assertEqual(list(inspect.signature(function).parameters), list(right))
            self.assertEqual(function.__module__, turns.__name__)
            self.assertEqual(function(**right), function(*right.values()))

    def test_wrong_arguments(self):
        for function, right, wrongs in CALLS:
            for name, values in wrongs.items():
                for value, error, told in values:
                    found, kept = error_of(function, **{**right, name: value})
                    self.assertIs(found, error, (function.__name__, name))
                    self.assertTrue(all(same(one, told) for one in kept.values()))
                    self.assertEqual(len(kept), 1)

    def test_the_first_wrong_argument_decides(self):
        for function, right, wrongs in CALLS:
            names = list(right)
            for at, name in enumerate(names):
                for value, error, told in wrongs[name][::7]:
                    for last in (0, 1, -1):
                        named = {**right, name: value, **{later: wrongs[later][last][0] for later in names[at + 1:]}}
                        found, kept = error_of(function, **named)
                        self.assertIs(found, error)
                        self.assertTrue(all(same(one, told) for one in kept.values()))

    def test_errors_of_several_arguments(self):
        self.assertEqual(error_of(turns_among, [("A", 0)], "C", -1), (InvalidSequence, {"index": 0}))
        self.assertEqual(error_of(turns_among, [("A", 1)], "C", -1), (InvalidPlayer, {"player": "C"}))
        self.assertEqual(error_of(pick_time, [("A", 1)], "A", 0), (InvalidNumber, {"name": "number"}))
        self.assertEqual(error_of(rest_of, [("A", 1)] * 201, -1), (InvalidSequence, {"index": -1}))
        self.assertEqual(error_of(first_difference, None, [None]), (InvalidSequence, {"index": -1}))
        self.assertEqual(error_of(first_difference, [], [("A", 1), None]), (InvalidSequence, {"index": 1}))

    def test_list_and_tuple_are_the_same(self):
        for sequence in small_sequences():
            pair = sequence, tuple(sequence)
            self.assertEqual(*[length(one) for one in pair])
            self.assertEqual(*[turns_among(one, "A", 3) for one in pair])
            self.assertEqual(*[pick_time(one, "A", 3) for one in pair])
            self.assertEqual(*[reversed_sequence(one) for one in pair])
            self.assertEqual(*[exchanged_sequence(one) for one in pair])
            self.assertEqual(*[rest_of(one, length(one) // 2) for one in pair])
            self.assertEqual(*[first_difference(one, [("AB", 3)]) for one in pair])

    def test_arguments_stay_and_results_are_new(self):
        for sequence in small_sequences():
            before = list(sequence)
            for function in (reversed_sequence, exchanged_sequence, lambda one: rest_of(one, 0)):
                result = function(sequence)
                self.assertIs(type(result), list)
                self.assertTrue(all(type(block) is tuple for block in result))
                result.append("more")
                self.assertEqual(sequence, before)
                self.assertNotEqual(function(sequence), result)
            length(sequence), turns_among(sequence, "A", 2), pick_time(sequence, "B", 2)
            first_difference(sequence, sequence)
            self.assertEqual(sequence, before)


if __name__ == "__main__":
    unittest.main()
