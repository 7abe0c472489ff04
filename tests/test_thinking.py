"""Stage 5: end_of, end_course, best_first_picks, is_end, turned."""

import functools
import unittest

import wrong
from arguments import check_arguments
from helpers import as_good, chance_of, check_course_form, error_of, held, left_kinds, less, letters, more, rival
from helpers import single_picks, some_list, some_turns, tiny_games, whole_game
from turnpicks import thinking
from turnpicks.blocks import first_parting
from turnpicks.bundles import best_bundle
from turnpicks.errors import Mismatch
from turnpicks.hostile import sure_bundle
from turnpicks.plain import plain_game, play_course
from turnpicks.thinking import best_first_picks, end_course, end_of, is_end, turned
from turnpicks.turns import length, pick_time, rest_of, turns_among

BIG = 10 ** 30
HUGE = 10 ** 5000

RIGHT = {"counts": (2, 1), "lists": ((0, 1), (1, 0)), "sequence": [("AB", 1), ("A", 1)]}
TOO_FEW = [([], Mismatch, "sequence"), ((), Mismatch, "sequence"), ([("A", 2)], Mismatch, "sequence")]
STEPS = [
    ("counts", wrong.wrong_counts()), ("lists", wrong.wrong_lists()), ("sequence", wrong.wrong_sequence()),
    ("sequence", wrong.too_long(3) + TOO_FEW),
]


def whole_games(name, many, most_items=8):
    """Small games in which all items are picked."""
    games = [game for game in tiny_games(name, many, most_items, whole=True)]
    return [game for game in games if length(game[2]) == sum(game[0])]


def huge_games(name, blocks=200):
    """Games with 60 kinds and 200 blocks in which all items are picked."""
    chance = chance_of(name)
    games = [whole_game(chance, digits, blocks) for digits in (6, 6, 30, 30, 300)]
    up = tuple(range(60))
    games += [((BIG,) * 60, (up, up[::-1]), [("AB" * 10, BIG // 10)] * 30)]
    games += [((BIG,) * 60, (up, up), [("ABBABAABBAABABBABAAB", BIG // 10)] * 30)]
    return games


def slow_end(counts, lists, whole):
    """The bundles in which best play ends, found pick by pick from the last one, as the document puts it."""
    left = list(counts)
    bundles = [[0] * len(counts), [0] * len(counts)]
    for turn in reversed(whole):
        own = "AB".index(turn)
        kind = [kind for kind in lists[1 - own] if left[kind]][-1]
        left[kind] -= 1
        bundles[own][kind] += 1
    return tuple(bundles[0]), tuple(bundles[1])


def searched_end(counts, lists, whole, values):
    """The bundles if each player makes the own value as great as possible in every pick."""
    @functools.lru_cache(maxsize=None)
    def end(left):
        picked = sum(counts) - sum(left)
        if picked == len(whole):
            none = (0,) * len(counts)
            return none, none
        own = "AB".index(whole[picked])
        ends = []
        for kind in left_kinds(left):
            bundles = list(end(less(left, kind)))
            bundles[own] = more(bundles[own], kind)
            ends.append(tuple(bundles))
        return max(ends, key=lambda bundles: sum(many * value for many, value in zip(bundles[own], values[own])))

    return end(counts)


def falling_values(chance, ranking):
    """Values >= 0 that fall strictly along a list."""
    values = [0] * len(ranking)
    value = chance.randint(0, 5)
    for kind in reversed(ranking):
        values[kind] = value
        value += chance.choice([1, 1, 2, 30])
    return values


def slow_first_picks(counts, lists, whole):
    """The kinds with which the first player still reaches the end, by the words of the document."""
    if not whole:
        return []
    own = "AB".index(whole[0])
    end = slow_end(counts, lists, whole)
    kinds = []
    for kind in lists[own]:
        if counts[kind]:
            bundles = list(slow_end(less(counts, kind), lists, whole[1:]))
            bundles[own] = more(bundles[own], kind)
            if tuple(bundles) == end:
                kinds.append(kind)
    return kinds


def joined(blocks):
    """The blocks that remain when those without picks are left out."""
    return [(turns, times) for turns, times in blocks if turns and times]


class TestEndOf(unittest.TestCase):
    def test_examples(self):
        self.assertEqual(end_of((1, 1, 1), ((0, 1, 2), (1, 0, 2)), [("ABA", 1)]), ((1, 0, 1), (0, 1, 0)))
        call = error_of(end_of, (1, 1, 1), ((0, 1, 2), (1, 0, 2)), [("AB", 1)])
        self.assertEqual(call, (Mismatch, {"name": "sequence"}))

    def test_single_picks(self):
        for counts, lists, sequence in whole_games("end", 400):
            self.assertEqual(end_of(counts, lists, sequence), slow_end(counts, lists, letters(sequence)))

    def test_all_picks_of_small_games(self):
        chance = chance_of("search")
        for counts, lists, sequence in whole_games("search", 200, 7):
            for _ in range(3):
                values = [falling_values(chance, ranking) for ranking in lists]
                found = searched_end(counts, lists, letters(sequence), values)
                self.assertEqual(end_of(counts, lists, sequence), found)

    def test_edges(self):
        self.assertEqual(end_of((), ((), ()), []), ((), ()))
        self.assertEqual(end_of((0, 0), ((0, 1), (1, 0)), ()), ((0, 0), (0, 0)))
        self.assertEqual(end_of((1, 0), ((0, 1), (1, 0)), [("B", 1)]), ((0, 0), (1, 0)))
        self.assertEqual(end_of((3, 2), ((0, 1), (1, 0)), [("B", 5)]), ((0, 0), (3, 2)))
        half = HUGE // 2
        self.assertEqual(end_of((HUGE, HUGE), ((0, 1), (0, 1)), [("AB", HUGE)]), ((half, half), (half, half)))
        self.assertEqual(end_of((HUGE, HUGE), ((0, 1), (1, 0)), [("AB", HUGE)]), ((HUGE, 0), (0, HUGE)))
        self.assertEqual(end_of((HUGE, 1), ((0, 1), (1, 0)), [("B", 1), ("A", HUGE)]), ((HUGE, 0), (0, 1)))

    def test_large_games(self):
        for counts, lists, sequence in huge_games("large end"):
            one, other = end_of(counts, lists, sequence)
            self.assertEqual(tuple(map(sum, zip(one, other))), counts)
            self.assertEqual(sum(one), turns_among(sequence, "A", sum(counts)))
            changed, backwards = turned(counts, lists, sequence)
            self.assertEqual(plain_game(counts, changed, backwards), (one, other, (0,) * 60))

    def test_kinds_are_tuples(self):
        found = end_of((2, 1), ((0, 1), (1, 0)), [("AB", 1), ("A", 1)])
        self.assertIs(type(found), tuple)
        self.assertTrue(all(type(bundle) is tuple for bundle in found))

    def test_arguments(self):
        check_arguments(self, end_of, thinking, RIGHT, STEPS)


class TestEndCourse(unittest.TestCase):
    def check_rows(self, counts, lists, sequence, course):
        check_course_form(self, counts, course)
        self.assertEqual(play_course(counts, course), end_of(counts, lists, sequence) + ((0,) * len(counts),))
        self.assertIsNone(first_parting([(turns, times) for turns, _, times in course], sequence))

    def test_single_picks(self):
        for counts, lists, sequence in whole_games("end course", 400):
            course = end_course(counts, lists, sequence)
            self.check_rows(counts, lists, sequence, course)
            left = counts
            rest = letters(sequence)
            for player, kind in single_picks(course):
                self.assertEqual(player, rest[0])
                self.assertIn(kind, slow_first_picks(left, lists, rest))
                left = less(left, kind)
                rest = rest[1:]
            self.assertEqual(rest, "")

    def test_large_games(self):
        chance = chance_of("large end course")
        for counts, lists, sequence in huge_games("large end course", 190):
            course = end_course(counts, lists, sequence)
            self.check_rows(counts, lists, sequence, course)
            left = counts
            passed = 0
            for turns, kinds, times in course:
                # All picks of the first and the last round, and of one between.
                for rounds in sorted({0, chance.randrange(times), times - 1}):
                    here = [many - rounds * kinds.count(kind) for kind, many in enumerate(left)]
                    for at in chance.sample(range(len(turns)), min(2, len(turns))):
                        now = list(here)
                        for kind in kinds[:at]:
                            now[kind] -= 1
                        rest = rest_of(sequence, passed + rounds * len(turns) + at)
                        self.assertIn(kinds[at], best_first_picks(tuple(now), lists, rest))
                left = tuple(many - times * kinds.count(kind) for kind, many in enumerate(left))
                passed += times * len(turns)

    def test_200_blocks(self):
        for counts, lists, sequence in huge_games("200 blocks"):
            self.check_rows(counts, lists, sequence, end_course(counts, lists, sequence))

    def test_edges(self):
        self.assertEqual(end_course((), ((), ()), []), [])
        self.assertEqual(end_course((0, 0), ((0, 1), (1, 0)), ()), [])
        course = end_course((HUGE,), ((0,), (0,)), [("A" * 20, HUGE // 20)])
        self.check_rows((HUGE,), ((0,), (0,)), [("A" * 20, HUGE // 20)], course)

    def test_results_are_new(self):
        course = end_course(**RIGHT)
        before = list(course)
        course.clear()
        self.assertEqual(end_course(**RIGHT), before)

    def test_arguments(self):
        check_arguments(self, end_course, thinking, RIGHT, STEPS)


class TestBestFirstPicks(unittest.TestCase):
    def test_example(self):
        self.assertEqual(best_first_picks((1, 1, 1), ((0, 1, 2), (2, 0, 1)), [("ABA", 1)]), [0, 1])

    def test_small_games(self):
        several = 0
        for counts, lists, sequence in whole_games("first picks", 900):
            found = best_first_picks(counts, lists, sequence)
            self.assertEqual(found, slow_first_picks(counts, lists, letters(sequence)))
            several += len(found) > 1
        self.assertGreater(several, 200)

    def test_games_of_many_kinds(self):
        chance = chance_of("many kinds")
        several = 0
        for _ in range(150):
            kinds = chance.randint(5, 12)
            counts = tuple(chance.choice([0, 1, 1, 2, 3]) for _ in range(kinds))
            lists = some_list(chance, kinds), some_list(chance, kinds)
            sequence = some_turns(chance, sum(counts), True)
            found = best_first_picks(counts, lists, sequence)
            self.assertEqual(found, slow_first_picks(counts, lists, letters(sequence)))
            several += len(found) > 2
        self.assertGreater(several, 50)

    def test_large_games(self):
        for counts, lists, sequence in huge_games("large first picks", 190):
            own = "AB".index(sequence[0][0][0])
            end = end_of(counts, lists, sequence)
            rest = rest_of(sequence, 1)
            wanted = []
            for kind in lists[own]:
                if counts[kind]:
                    bundles = list(end_of(less(counts, kind), lists, rest))
                    bundles[own] = more(bundles[own], kind)
                    if tuple(bundles) == end:
                        wanted.append(kind)
            self.assertEqual(best_first_picks(counts, lists, sequence), wanted)

    def test_edges(self):
        self.assertEqual(best_first_picks((), ((), ()), []), [])
        self.assertEqual(best_first_picks((0, 0), ((0, 1), (1, 0)), ()), [])
        self.assertEqual(best_first_picks((0, 3), ((0, 1), (1, 0)), [("B", 3)]), [1])
        self.assertEqual(best_first_picks((2, 3), ((0, 1), (1, 0)), [("B", 5)]), [1, 0])
        self.assertEqual(best_first_picks((1, 1), ((0, 1), (0, 1)), [("AB", 1)]), [0])
        self.assertEqual(best_first_picks((HUGE, HUGE), ((0, 1), (0, 1)), [("AB", HUGE)]), [0, 1])
        self.assertEqual(best_first_picks((HUGE + 1, HUGE + 1), ((0, 1), (0, 1)), [("AB", HUGE + 1)]), [0])
        self.assertEqual(best_first_picks((HUGE, HUGE), ((0, 1), (1, 0)), [("BA", HUGE)]), [1])

    def test_results_are_new(self):
        found = best_first_picks(**RIGHT)
        before = list(found)
        found.append("more")
        self.assertEqual(best_first_picks(**RIGHT), before)

    def test_arguments(self):
        check_arguments(self, best_first_picks, thinking, RIGHT, STEPS)


class Alike:
    """An object that is equal to all others, and says so in its own way."""

    def __init__(self, answer):
        self.answer = answer

    def __eq__(self, other):
        return self.answer


class TestIsEnd(unittest.TestCase):
    def test_small_games(self):
        chance = chance_of("is end")
        for counts, lists, sequence in whole_games("is end", 200):
            end = end_of(counts, lists, sequence)
            self.assertIs(is_end(counts, lists, sequence, end), True)
            self.assertIs(is_end(counts, lists, tuple(sequence), (tuple(end[0]), tuple(end[1]))), True)
            for other in (list(end), (list(end[0]), end[1]), end + ((),), end[:1], end[::-1], None):
                self.assertIs(is_end(counts, lists, sequence, other), other == end)
            for own in (0, 1):
                if left_kinds(end[own]) and len(counts) > 1:
                    one = chance.choice(left_kinds(end[own]))
                    changed = list(end)
                    changed[own] = more(less(end[own], one), (one + 1) % len(counts))
                    self.assertIs(is_end(counts, lists, sequence, tuple(changed)), False)

    def test_any_object(self):
        values = [None, True, 0, HUGE, "A", b"A", [], (), {}, set(), object(), len, Alike, iter([]), [[1, 0], [1, 1]]]
        for value in values:
            self.assertIs(is_end(**RIGHT, bundles=value), False)
        self.assertIs(is_end(**RIGHT, bundles=end_of(**RIGHT)), True)
        # True is equal to 1, and what is equal is the end.
        self.assertEqual(end_of((1,), ((0,), (0,)), [("A", 1)]), ((1,), (0,)))
        self.assertIs(is_end((1,), ((0,), (0,)), [("A", 1)], ((True,), (False,))), True)
        for answer, found in ((True, True), (1, True), ("yes", True), (False, False), (0, False), ([], False)):
            self.assertIs(is_end(**RIGHT, bundles=Alike(answer)), found)

    def test_large_games(self):
        for counts, lists, sequence in huge_games("large is end"):
            end = end_of(counts, lists, sequence)
            self.assertIs(is_end(counts, lists, sequence, end), True)
            self.assertIs(is_end(counts, lists, sequence, (more(end[0], 59), end[1])), False)

    def test_edges(self):
        self.assertIs(is_end((), ((), ()), [], ((), ())), True)
        self.assertIs(is_end((), ((), ()), [], ()), False)
        self.assertIs(is_end((), ((), ()), [], [(), ()]), False)

    def test_arguments(self):
        check_arguments(self, is_end, thinking, {**RIGHT, "bundles": None}, STEPS)


class TestTurned(unittest.TestCase):
    def test_example(self):
        found = turned((1, 1), ((0, 1), (0, 1)), [("AB", 1)])
        self.assertEqual(found, (((1, 0), (1, 0)), [("BA", 1)]))

    def test_small_games(self):
        for counts, lists, sequence in whole_games("turned", 200):
            found = turned(counts, lists, sequence)
            self.assertIs(type(found), tuple)
            changed, backwards = found
            self.assertEqual(changed, (lists[1][::-1], lists[0][::-1]))
            self.assertEqual(backwards, [(turns[::-1], times) for turns, times in sequence][::-1])
            self.assertEqual(plain_game(counts, changed, backwards)[:2], end_of(counts, lists, sequence))
            self.assertEqual(turned(counts, changed, backwards), (lists, sequence))

    def test_edges(self):
        self.assertEqual(turned((), ((), ()), ()), (((), ()), []))
        self.assertEqual(turned((HUGE,), ((0,), (0,)), (("AAB", HUGE // 3), ("A", 1))),
                         (((0,), (0,)), [("A", 1), ("BAA", HUGE // 3)]))

    def test_results_are_new(self):
        found = turned(**RIGHT)[1]
        found.append("more")
        self.assertEqual(turned(**RIGHT)[1], [("A", 1), ("BA", 1)])

    def test_arguments(self):
        check_arguments(self, turned, thinking, RIGHT, STEPS)


class TestFacts(unittest.TestCase):
    def games(self, name):
        return whole_games(name, 150) + huge_games(name)

    def test_between_hostile_and_plain(self):
        for counts, lists, sequence in self.games("between"):
            end = end_of(counts, lists, sequence)
            for own, player in enumerate("AB"):
                sure = sure_bundle(counts, lists[own], sequence, player)
                self.assertTrue(as_good(lists[own], end[own], sure))
                best = best_bundle(counts, lists, sequence, player)
                self.assertTrue(as_good(lists[own], best, end[own]))

    def test_equal_lists(self):
        for counts, lists, sequence in self.games("equal"):
            ranking = lists[0]
            sure = tuple(sure_bundle(counts, ranking, sequence, player) for player in "AB")
            self.assertEqual(end_of(counts, (ranking, ranking), sequence), sure)

    def test_reversed_lists(self):
        for counts, lists, sequence in self.games("reversed"):
            pair = lists[0], lists[0][::-1]
            end = end_of(counts, pair, sequence)
            for own, player in enumerate("AB"):
                many = turns_among(sequence, player, sum(counts))
                firsts = [min(many, held(counts, pair[own], prefix)) for prefix in range(1, len(counts) + 1)]
                self.assertEqual([held(end[own], pair[own], prefix) for prefix in range(1, len(counts) + 1)], firsts)

    def changed(self, chance, sequence, player, letter):
        """The sequence with one turn of the player replaced by a string of as many picks as it has letters, or None."""
        number = turns_among(sequence, player, length(sequence))
        if not number or len(sequence) > 197:
            return None
        at = pick_time(sequence, player, chance.randint(1, number)) - 1
        passed = 0
        blocks = []
        for turns, times in sequence:
            rounds, part = divmod(at - passed, len(turns))
            if 0 <= at - passed < len(turns) * times:
                round_with = turns[:part] + letter + turns[part + 1:]
                blocks += joined([(turns, rounds), (round_with, 1), (turns, times - rounds - 1)])
            else:
                blocks.append((turns, times))
            passed += len(turns) * times
        return blocks

    def test_a_turn_given_to_the_other(self):
        chance = chance_of("given")
        for counts, lists, sequence in whole_games("given", 300) + huge_games("given", 190):
            for player in "AB":
                other = self.changed(chance, sequence, player, rival(player))
                if other is not None:
                    its = "BA".index(player)
                    before = end_of(counts, lists, sequence)[its]
                    after = end_of(counts, lists, other)[its]
                    self.assertTrue(all(one <= two for one, two in zip(before, after)))
                    self.assertEqual(sum(after), sum(before) + 1)

    def test_a_turn_exchanged_with_the_one_before(self):
        better = 0
        for counts, lists, sequence in whole_games("earlier", 900):
            whole = letters(sequence)
            for player in "AB":
                own = "AB".index(player)
                for at in range(1, len(whole)):
                    if whole[at - 1:at + 1] == rival(player) + player:
                        earlier = whole[:at - 1] + player + rival(player) + whole[at + 1:]
                        before = end_of(counts, lists, sequence)[own]
                        after = end_of(counts, lists, [(letter, 1) for letter in earlier])[own]
                        self.assertTrue(as_good(lists[own], after, before))
                        better += before != after
        self.assertGreater(better, 50)

    def test_list_and_tuple_are_the_same(self):
        for counts, lists, sequence in whole_games("forms", 60):
            for function in (end_of, end_course, best_first_picks, turned):
                self.assertEqual(function(counts, lists, sequence), function(counts, lists, tuple(sequence)))


if __name__ == "__main__":
    unittest.main()
