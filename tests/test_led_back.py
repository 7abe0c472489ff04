"""Stage 8: misfit, fits, parents, list_count, place_range, told_by, next_shares, list_at, list_number."""

import collections
import fractions
import itertools
import math
import unittest

import wrong
from arguments import check_arguments, check_refused, check_steps, check_wrong
from helpers import chance_of, error_of, left_kinds, rival, single_picks, some_list
from turnpicks import led_back
from turnpicks.errors import InvalidCourse, InvalidNumber, InvalidPlayer, Misfit
from turnpicks.led_back import fits, list_at, list_count, list_number, misfit, next_shares, parents, place_range
from turnpicks.led_back import told_by
from turnpicks.plain import plain_course, play_course

BIG = 10 ** 30
HUGE = 10 ** 5000
UP = tuple(range(60))
DOWN = UP[::-1]

TEXT = (2, 2, 1), [("A", (0,), 2), ("BA", (2, 1), 1)], "A"

RIGHT = {"counts": (2, 1), "course": [("A", (0,), 1)], "player": "A"}
TOO_MANY = [
    ([("A", (0,), 3)], InvalidCourse, 0), ([("AB", (0, 0), 1), ("B", (0,), 1)], InvalidCourse, 1),
    ([("A", (1,), 1), ("A", (0,), 10 ** 5000), ("B", (1,), 1)], InvalidCourse, 1),
    ([("B", (0,), 1), ("B", (1,), 1), ("BA", (0, 0), 1)], InvalidCourse, 2), ([("AB", (1, 1), 1)], InvalidCourse, 0),
]
STEPS = [
    ("counts", wrong.wrong_counts()), ("course", wrong.wrong_course()), ("course", TOO_MANY),
    ("player", wrong.wrong_player()),
]
MISFITS = [("course", [
    ([("A", (0,), 1), ("A", (1,), 1)], Misfit, 1), ([("AA", (0, 1), 1)], Misfit, 0),
    ([("A", (0,), 1), ("AA", (1, 0), 1)], Misfit, 1), ([("AAB", (0, 1, 0), 1)], Misfit, 0),
])]
FUNCTIONS = [misfit, fits, parents, list_count, place_range, told_by, next_shares, list_at, list_number]


def some_course(chance, counts, player, plain):
    """A course with these items; the player's picks are those of a list, or mostly so."""
    ranking = some_list(chance, len(counts))
    left = list(counts)
    course = []
    for _ in range(chance.randint(0, 6)):
        now = list(left)
        kinds = []
        turns = "".join(chance.choice("AB") for _ in range(chance.randint(1, 4)))[:sum(left)]
        for turn in turns:
            kind = chance.choice(left_kinds(now))
            if turn == player and chance.random() < plain:
                kind = next(kind for kind in ranking if now[kind])
            now[kind] -= 1
            kinds.append(kind)
        if turns:
            picked = collections.Counter(kinds)
            times = chance.randint(1, min(left[kind] // many for kind, many in picked.items()))
            for kind, many in picked.items():
                left[kind] -= times * many
            course.append((turns, tuple(kinds), times))
    return course


def small_courses(name, many, plain=0.97):
    """Counts, courses and players with few kinds, so that all lists can be gone through."""
    chance = chance_of(name)
    found = [((), [], "A"), ((0, 0), [], "B"), ((2, 1), [], "A"), ((1, 1), [("B", (0,), 1)], "A")]
    while len(found) < many:
        kinds = chance.choice([1, 2, 3, 4, 5, 5])
        counts = tuple(chance.choice([0, 1, 1, 2, 3, 6]) for _ in range(kinds))
        player = chance.choice("AB")
        found.append((counts, some_course(chance, counts, player, plain), player))
    return found


def first_wrong_row(counts, course, player, ranking):
    """The index of the first row with a pick of the player that is not the list's, or None."""
    left = list(counts)
    for index, row in enumerate(course):
        for turn, kind in single_picks([row]):
            if turn == player and next(best for best in ranking if left[best]) != kind:
                return index
            left[kind] -= 1
    return None


def all_lists(counts):
    """All lists, in ascending order."""
    return list(itertools.permutations(range(len(counts))))


def fitting(counts, course, player):
    """All lists that fit, in ascending order, found by playing the course with each list."""
    return [ranking for ranking in all_lists(counts) if first_wrong_row(counts, course, player, ranking) is None]


def fitting_courses(name, many):
    """Small courses that some lists fit, with all of these lists."""
    found = [(*course, fitting(*course)) for course in small_courses(name, many)]
    return [entry for entry in found if entry[3]]


def large_course(chance, ranking, player, rows=1000):
    """A course at the bounds in which the player picks plainly by the list of 60 kinds; and its counts."""
    course = []
    for index in range(rows):
        turns = "".join(chance.choice("AB") for _ in range(20))
        own = index * 40 // rows
        kinds = [ranking[own] if turn == player else ranking[chance.randint(own, 55)] for turn in turns]
        course.append((turns, tuple(kinds), BIG + index))
    picked = collections.Counter()
    for _, kinds, times in course:
        for kind in kinds:
            picked[kind] += times
    # Of the last kinds of the list some items are left, so that the player is not known to be done with them.
    counts = [picked[kind] + (ranking.index(kind) >= 50) for kind in range(60)]
    return tuple(counts), course


class TestMisfit(unittest.TestCase):
    def test_examples(self):
        self.assertEqual(misfit((2, 2, 1), [("A", (0,), 1), ("BA", (2, 1), 1)], "A"), 1)
        self.assertIsNone(misfit(*TEXT))

    def test_all_lists_of_small_courses(self):
        wrong_rows = collections.Counter()
        for counts, course, player in small_courses("misfit", 1500, 0.3):
            rows = [first_wrong_row(counts, course, player, ranking) for ranking in all_lists(counts)]
            wanted = None if None in rows else max(rows)
            self.assertEqual(misfit(counts, course, player), wanted)
            wrong_rows[wanted] += 1
        self.assertGreater(wrong_rows[0], 20)
        self.assertGreater(wrong_rows[1], 50)
        self.assertGreater(wrong_rows[2], 20)
        self.assertGreater(wrong_rows[None], 300)

    def test_within_one_row(self):
        # Of kind 0 there are two items. The pick of kind 1 comes when both are gone, or too early.
        for course, wanted in (
            ([("AAA", (0, 0, 1), 1)], None), ([("AAA", (0, 1, 0), 1)], 0), ([("ABA", (0, 0, 1), 1)], None),
            ([("AAB", (0, 1, 0), 1)], 0), ([("AB", (0, 1), 2)], None), ([("AA", (0, 1), 2)], 0),
            ([("BA", (0, 1), 2)], None), ([("A", (0,), 2), ("A", (1,), 2)], None),
            ([("A", (1,), 1), ("B", (1,), 1), ("A", (0,), 2)], None), ([("A", (1,), 1), ("AB", (0, 1), 1)], 1),
            ([("A", (1,), 1), ("BA", (1, 0), 1)], None),
        ):
            self.assertEqual(misfit((2, 2), course, "A"), wanted)

    def test_1000_rows(self):
        chance = chance_of("large misfit")
        for player in "AB":
            ranking = some_list(chance, 60)
            counts, course = large_course(chance, ranking, player)
            self.assertIsNone(misfit(counts, course, player))
            for index in (0, 1, 400, 998, 999):
                # The player passes over a kind of which items are left, for one that no one else has picked.
                turns, kinds, times = course[index]
                place = turns.rindex(player)
                others = course[:index] + [(turns, kinds[:place] + (ranking[59],) + kinds[place + 1:], times)]
                others += course[index + 1:]
                more = list(counts)
                more[ranking[59]] += times
                self.assertEqual(misfit(tuple(more), others, player), index)

    def test_the_other_player_may_pick_anything(self):
        chance = chance_of("anything")
        counts = (BIG * 1000,) * 60
        course = [("AB" * 10, sum([(7, chance.randrange(60)) for _ in range(10)], ()), BIG // 20) for _ in range(1000)]
        self.assertIsNone(misfit(counts, course, "A"))
        self.assertEqual(misfit(counts, course, "B"), 0)

    def test_edges(self):
        self.assertIsNone(misfit((), [], "A"))
        self.assertIsNone(misfit((HUGE, 1), [("AB" * 10, (0,) * 20, HUGE // 20)], "B"))
        self.assertIsNone(misfit((HUGE, 1), [("A" * 20, (0,) * 20, HUGE // 20), ("B", (1,), 1)], "B"))
        self.assertIsNone(misfit((HUGE, 1), [("B" * 20, (0,) * 20, HUGE // 20), ("B", (1,), 1)], "B"))
        self.assertEqual(misfit((HUGE + 1, 1), [("B" * 20, (0,) * 20, HUGE // 20), ("B", (1,), 1)], "B"), 1)

    def test_arguments(self):
        check_arguments(self, misfit, led_back, RIGHT, STEPS)


class TestFits(unittest.TestCase):
    def test_example(self):
        self.assertIs(fits((2, 2, 1), [("A", (0,), 2), ("A", (1,), 1)], "A", (0, 2, 1)), False)

    def test_all_lists_of_small_courses(self):
        right = none = 0
        for counts, course, player in small_courses("fits", 700, 0.8):
            found = fitting(counts, course, player)
            for ranking in all_lists(counts):
                self.assertIs(fits(counts, course, player, ranking), ranking in found)
            right += len(found)
            none += not found
        self.assertGreater(right, 3000)
        self.assertGreater(none, 30)

    def test_the_list_of_a_plain_course(self):
        chance = chance_of("plain course")
        for _ in range(5):
            counts = tuple(chance.choice([0, 1, BIG, chance.randint(0, BIG)]) for _ in range(60))
            lists = some_list(chance, 60), some_list(chance, 60)
            sequence = [("ABBA" * 5, sum(counts) // 4400) for _ in range(200)]
            course = plain_course(counts, lists, sequence)
            for own, player in enumerate("AB"):
                self.assertIs(fits(counts, course, player, lists[own]), True)
                self.assertIs(fits(counts, course, player, lists[own][::-1]), False)

    def test_1000_rows(self):
        chance = chance_of("large fits")
        ranking = some_list(chance, 60)
        counts, course = large_course(chance, ranking, "A")
        self.assertIs(fits(counts, course, "A", ranking), True)
        for place in range(59):
            other = ranking[:place] + (ranking[place + 1], ranking[place]) + ranking[place + 2:]
            self.assertIs(fits(counts, course, "A", other), place >= 40)

    def test_edges(self):
        self.assertIs(fits((), [], "A", ()), True)
        for ranking in ((0, 1), (1, 0)):
            self.assertIs(fits((2, 0), [], "A", ranking), True)
            self.assertIs(fits((2, 0), [("A", (0,), 2)], "A", ranking), True)
            self.assertIs(fits((2, 1), [("A", (0,), 1)], "A", ranking), ranking == (0, 1))
            self.assertIs(fits((2, 1), [("A", (0,), 1), ("A", (1,), 1)], "A", ranking), False)

    def test_arguments(self):
        right = {**RIGHT, "ranking": (1, 0)}
        check_arguments(self, fits, led_back, right, STEPS + [("ranking", wrong.wrong_ranking())])


class TestParents(unittest.TestCase):
    def test_examples(self):
        self.assertEqual(parents(*TEXT), [None, 0, 0])
        self.assertEqual(error_of(parents, (1,), [("A", (0,), 2)], "A"), (InvalidCourse, {"index": 0}))

    def test_all_lists_of_small_courses(self):
        chained = 0
        for counts, course, player, found in fitting_courses("parents", 500):
            kinds = range(len(counts))
            wanted = []
            for kind in kinds:
                above = [other for other in kinds if other != kind
                         and all(ranking.index(other) < ranking.index(kind) for ranking in found)]
                lowest = [other for other in above
                          if all(ranking.index(other) >= ranking.index(high) for ranking in found for high in above)]
                wanted.append(lowest[0] if lowest else None)
            self.assertEqual(parents(counts, course, player), wanted)
            chained += any(above is not None and wanted[above] is not None for above in wanted)
        self.assertGreater(chained, 40)

    def test_exactly_those_lists_fit_that_have_each_kind_behind_its_parent(self):
        for counts, course, player, found in fitting_courses("behind", 300):
            above = parents(counts, course, player)
            behind = [ranking for ranking in all_lists(counts)
                      if all(one is None or ranking.index(one) < ranking.index(kind) for kind, one in enumerate(above))]
            self.assertEqual(behind, found)

    def test_repeated_rows(self):
        # Kind 1 is left when A first picks kind 0, as the row is repeated; with one round it is not.
        self.assertEqual(parents((9, 2, 1), [("BA", (1, 0), 2)], "A"), [None, 0, 0])
        self.assertEqual(parents((9, 1, 1), [("BA", (1, 0), 1)], "A"), [None, None, 0])
        self.assertEqual(parents((9, 2, 1), [("BA", (1, 0), 1), ("BA", (1, 0), 1)], "A"), [None, 0, 0])
        course = [("B", (1,), BIG - 1), ("A", (0,), 3), ("B", (1,), 1), ("A", (2,), 1)]
        self.assertEqual(parents((3, BIG, 1), course, "A"), [None, 0, 0])
        self.assertEqual(parents((3, BIG, 1), [("B", (1,), BIG), ("A", (0,), 3), ("A", (2,), 1)], "A"), [None, None, 0])

    def test_1000_rows(self):
        chance = chance_of("large parents")
        for player in "AB":
            ranking = some_list(chance, 60)
            counts, course = large_course(chance, ranking, player)
            found = parents(counts, course, player)
            for place, kind in enumerate(ranking):
                if place < 40:
                    self.assertEqual(found[kind], ranking[place - 1] if place else None)
                elif place >= 50 or counts[kind] == 0:
                    self.assertEqual(found[kind], ranking[39] if counts[kind] else None)
                else:
                    self.assertIn(found[kind], ranking[:40])

    def test_edges(self):
        self.assertEqual(parents((), [], "A"), [])
        self.assertEqual(parents((0, 2, 0), [], "A"), [None] * 3)
        self.assertEqual(parents((0, 2, 0), [("A", (1,), 1)], "A"), [None] * 3)
        self.assertEqual(parents((1, 2, 0), [("A", (1,), 1)], "A"), [1, None, None])
        self.assertEqual(parents((1, 2, 0), [("A", (1,), 1)], "B"), [None] * 3)
        self.assertEqual(parents((1,) * 60, [("A", (kind,), 1) for kind in DOWN], "A"), list(range(1, 60)) + [None])

    def test_results_are_new(self):
        found = parents(*TEXT)
        found[0] = "changed"
        found.append("more")
        self.assertEqual(parents(*TEXT), [None, 0, 0])

    def test_arguments(self):
        check_arguments(self, parents, led_back, RIGHT, STEPS + MISFITS)


class TestListCount(unittest.TestCase):
    def test_examples(self):
        self.assertEqual(list_count(*TEXT), 2)
        call = error_of(list_count, (2, 2, 1), [("A", (0,), 1), ("A", (1,), 1)], "A")
        self.assertEqual(call, (Misfit, {"index": 1}))

    def test_all_lists_of_small_courses(self):
        for counts, course, player, found in fitting_courses("count", 500):
            self.assertEqual(list_count(counts, course, player), len(found))

    def test_60_kinds(self):
        self.assertEqual(list_count((BIG,) * 60, [], "A"), math.factorial(60))
        self.assertEqual(list_count((BIG,) * 60, [("A", (7,), BIG)], "A"), math.factorial(59))
        self.assertEqual(list_count((BIG,) * 60, [("A", (kind,), BIG) for kind in range(20)], "A"), math.factorial(40))
        self.assertEqual(list_count((BIG,) * 60, [("A", (kind,), BIG) for kind in UP], "A"), 1)
        self.assertEqual(list_count((BIG,) * 60, [("A", (kind,), BIG) for kind in UP], "B"), math.factorial(60))
        self.assertEqual(list_count((BIG,) + (0,) * 59, [("A", (0,), 1)], "A"), math.factorial(60))

    def test_1000_rows(self):
        chance = chance_of("large count")
        counts, course = large_course(chance, UP, "A")
        above = parents(counts, course, "A")
        found = math.factorial(60)
        for kind in range(60):
            under = {kind}
            while any(above[other] in under and other not in under for other in range(60)):
                under |= {other for other in range(60) if above[other] in under}
            found //= len(under)
        self.assertEqual(list_count(counts, course, "A"), found)

    def test_edges(self):
        self.assertEqual(list_count((), [], "A"), 1)
        self.assertEqual(list_count((0, 0, 0), [], "A"), 6)
        self.assertEqual(list_count((1,), [("A", (0,), 1)], "A"), 1)

    def test_arguments(self):
        check_arguments(self, list_count, led_back, RIGHT, STEPS + MISFITS)


class TestPlaceRange(unittest.TestCase):
    def test_example(self):
        self.assertEqual(place_range(*TEXT, 1), (2, 3))

    def test_all_lists_of_small_courses(self):
        for counts, course, player, found in fitting_courses("places", 500):
            for kind in range(len(counts)):
                places = {ranking.index(kind) + 1 for ranking in found}
                least, greatest = place_range(counts, course, player, kind)
                self.assertEqual(places, set(range(least, greatest + 1)))
                self.assertIs(type(place_range(counts, course, player, kind)), tuple)

    def test_1000_rows(self):
        chance = chance_of("large places")
        counts, course = large_course(chance, DOWN, "B")
        for place, kind in enumerate(DOWN):
            least, greatest = place_range(counts, course, "B", kind)
            if place < 40:
                self.assertEqual(least, place + 1)
                self.assertLessEqual(greatest, 60 - (39 - place) - 10)
            elif place >= 50 and counts[kind]:
                self.assertEqual((least, greatest), (41, 60))

    def test_edges(self):
        self.assertEqual(place_range((1,), [], "A", 0), (1, 1))
        self.assertEqual(place_range((0,) * 60, [], "A", 59), (1, 60))
        self.assertEqual(place_range((1,) * 60, [("A", (5,), 1)], "A", 5), (1, 1))
        self.assertEqual(place_range((1,) * 60, [("A", (5,), 1)], "A", 6), (2, 60))

    def test_arguments(self):
        right = {**RIGHT, "kind": 1}
        check_arguments(self, place_range, led_back, right, STEPS + [("kind", wrong.wrong_kind())] + MISFITS)


class TestToldByAndNextShares(unittest.TestCase):
    def test_examples(self):
        self.assertEqual(told_by((1, 2, 1), [("A", (0,), 1)], "A", 2), 1)
        self.assertEqual(next_shares((1, 2, 1), [("A", (0,), 1)], "A"), [(1, (1, 2)), (2, (1, 2))])
        self.assertEqual(next_shares((3, 2, 1), [("A", (0,), 1)], "A"), [(0, (1, 1))])

    def test_all_lists_of_small_courses(self):
        several = 0
        for counts, course, player, found in fitting_courses("told by", 800):
            left = play_course(counts, course)[2]
            tell = collections.Counter(next(kind for kind in ranking if left[kind]) for ranking in found if any(left))
            shares = []
            for kind in range(len(counts)):
                self.assertEqual(told_by(counts, course, player, kind), tell[kind])
                if tell[kind]:
                    share = fractions.Fraction(tell[kind], len(found))
                    shares.append((kind, (share.numerator, share.denominator)))
            self.assertEqual(next_shares(counts, course, player), shares)
            several += len(shares) > 1
        self.assertGreater(several, 100)

    def test_1000_rows(self):
        chance = chance_of("large shares")
        for player in "AB":
            ranking = some_list(chance, 60)
            counts, course = large_course(chance, ranking, player)
            left = left_kinds(play_course(counts, course)[2])
            shares = next_shares(counts, course, player)
            self.assertEqual(shares, [(kind, (1, len(left))) for kind in left])
            many = list_count(counts, course, player)
            for kind in range(60):
                told = many // len(left) if kind in left else 0
                self.assertEqual(told_by(counts, course, player, kind), told)

    def test_told_by_is_the_count_after_this_pick(self):
        chance = chance_of("after this pick")
        for _ in range(40):
            ranking = some_list(chance, 60)
            counts = tuple(chance.randint(0, 3) for _ in range(60))
            left = list(counts)
            course = []
            for _ in range(chance.randint(0, 100)):
                if any(left):
                    turn = chance.choice("AB")
                    kind = chance.choice(left_kinds(left))
                    if turn == "A":
                        kind = next(kind for kind in ranking if left[kind])
                    left[kind] -= 1
                    course.append((turn, (kind,), 1))
            told = 0
            for kind in range(60):
                found = told_by(counts, course, "A", kind)
                if left[kind]:
                    after = course + [("A", (kind,), 1)]
                    count = 0 if misfit(counts, after, "A") is not None else list_count(counts, after, "A")
                    self.assertEqual(found, count)
                else:
                    self.assertEqual(found, 0)
                told += found
            self.assertEqual(told, list_count(counts, course, "A") if any(left) else 0)

    def test_edges(self):
        self.assertEqual(next_shares((), [], "A"), [])
        self.assertEqual(next_shares((0, 0), [], "A"), [])
        self.assertEqual(next_shares((1, 1), [("AB", (0, 1), 1)], "A"), [])
        self.assertEqual(next_shares((0, 1, 1, 1), [], "B"), [(1, (1, 3)), (2, (1, 3)), (3, (1, 3))])
        self.assertEqual(next_shares((0, 0, 1), [], "B"), [(2, (1, 1))])
        self.assertEqual(told_by((1, 1), [("AB", (0, 1), 1)], "A", 0), 0)
        self.assertEqual(told_by((0, 0, 1), [], "A", 2), 6)
        self.assertEqual(told_by((HUGE,) * 60, [], "A", 59), math.factorial(59))
        self.assertEqual(told_by((HUGE,) * 60, [("A", (3,), HUGE - 1)], "A", 3), math.factorial(59))
        self.assertEqual(told_by((HUGE,) * 60, [("A", (3,), HUGE - 1)], "A", 4), 0)

    def test_results_are_new(self):
        found = next_shares(*TEXT)
        before = list(found)
        found.append("more")
        self.assertEqual(next_shares(*TEXT), before)

    def test_arguments(self):
        check_arguments(self, next_shares, led_back, RIGHT, STEPS + MISFITS)
        right = {**RIGHT, "kind": 1}
        check_arguments(self, told_by, led_back, right, STEPS + [("kind", wrong.wrong_kind())] + MISFITS)


class TestListAtAndListNumber(unittest.TestCase):
    def test_examples(self):
        self.assertEqual(list_at((1, 1, 1), [("A", (2,), 1)], "A", 1), (2, 1, 0))
        call = error_of(list_at, (1, 1, 1), [("A", (2,), 1)], "A", 2)
        self.assertEqual(call, (InvalidNumber, {"name": "number"}))
        self.assertEqual(list_number((1, 1, 1), [("A", (2,), 1)], "A", (2, 1, 0)), 1)

    def test_all_lists_of_small_courses(self):
        for counts, course, player, found in fitting_courses("list at", 350):
            numbers = {ranking: number for number, ranking in enumerate(found)}
            for number, ranking in enumerate(found):
                self.assertEqual(list_at(counts, course, player, number), ranking)
            for ranking in all_lists(counts):
                self.assertEqual(list_number(counts, course, player, ranking), numbers.get(ranking))
            for number in (len(found), len(found) + 1, HUGE):
                call = error_of(list_at, counts, course, player, number)
                self.assertEqual(call, (InvalidNumber, {"name": "number"}))

    def test_1000_rows(self):
        chance = chance_of("large list at")
        for player in "AB":
            hidden = some_list(chance, 60)
            counts, course = large_course(chance, hidden, player)
            many = list_count(counts, course, player)
            numbers = sorted({0, 1, many // 3, many - 1, *[chance.randrange(many) for _ in range(12)]})
            lists = [list_at(counts, course, player, number) for number in numbers]
            self.assertEqual(lists, sorted(lists))
            for number, ranking in zip(numbers, lists):
                self.assertIs(type(ranking), tuple)
                self.assertIs(fits(counts, course, player, ranking), True)
                self.assertEqual(list_number(counts, course, player, ranking), number)
            self.assertEqual(list_at(counts, course, player, list_number(counts, course, player, hidden)), hidden)
            self.assertIsNone(list_number(counts, course, player, hidden[::-1]))

    def test_neighbours_of_60_kinds(self):
        chance = chance_of("neighbours")
        counts = (1,) * 60
        for _ in range(5):
            number = chance.randrange(math.factorial(60) - 1)
            one, other = list_at(counts, [], "A", number), list_at(counts, [], "A", number + 1)
            # The next list in ascending order: behind what they have in common, the rest falls and then rises.
            place = max(at for at in range(59) if one[at] < one[at + 1])
            self.assertEqual(one[:place], other[:place])
            self.assertEqual(other[place], min(kind for kind in one[place:] if kind > one[place]))
            self.assertEqual(list(other[place + 1:]), sorted(other[place + 1:]))

    def test_edges(self):
        self.assertEqual(list_at((), [], "A", 0), ())
        self.assertEqual(list_number((), [], "A", ()), 0)
        self.assertEqual(list_at((0,) * 60, [], "A", 0), UP)
        self.assertEqual(list_at((0,) * 60, [], "A", math.factorial(60) - 1), DOWN)
        self.assertEqual(list_number((0,) * 60, [], "A", DOWN), math.factorial(60) - 1)
        self.assertIsNone(list_number((1, 1), [("A", (0,), 1)], "A", (1, 0)))
        self.assertEqual(list_number((1, 1), [("A", (0,), 1)], "B", (1, 0)), 1)

    def test_arguments(self):
        # With the right course, only the list (0, 1) fits.
        late = [("number", [(number, InvalidNumber, "number") for number in (1, 2, HUGE)])]
        right = {**RIGHT, "number": 0}
        steps = STEPS + [("number", wrong.wrong_number("number", 0))] + MISFITS + late
        check_arguments(self, list_at, led_back, right, steps)
        right = {**RIGHT, "ranking": (1, 0)}
        check_arguments(self, list_number, led_back, right, STEPS + [("ranking", wrong.wrong_ranking())] + MISFITS)


class TestErrors(unittest.TestCase):
    def further(self, function):
        """Right further arguments, where there are two kinds."""
        named = {place_range: {"kind": 0}, told_by: {"kind": 0}, list_at: {"number": 0}}
        return named.get(function, {"ranking": (0, 1)} if function in (fits, list_number) else {})

    def test_misfit_is_the_index_of_the_row(self):
        for counts, course, player in small_courses("errors", 300, 0.7):
            index = misfit(counts, course, player)
            if len(counts) == 2 and index is not None:
                for function in FUNCTIONS[2:]:
                    call = error_of(function, counts, course, player, **self.further(function))
                    self.assertEqual(call, (Misfit, {"index": index}))
                for ranking in ((0, 1), (1, 0)):
                    self.assertIs(fits(counts, course, player, ranking), False)

    def test_rows_are_looked_at_before_items_and_these_before_the_player(self):
        excess = [("A", (0,), 3), ("A", (1,), 1)]
        for function in FUNCTIONS:
            named = self.further(function)
            for player in ("A", "C", None, []):
                call = error_of(function, (2, 1), excess, player, **named)
                self.assertEqual(call, (InvalidCourse, {"index": 0}))
                call = error_of(function, (2, 1), excess + [("A", (2,), 1)], player, **named)
                self.assertEqual(call, (InvalidCourse, {"index": 2}))
            call = error_of(function, (2, 1), [("A", (0,), 1), ("A", (1,), 1)], "C", **named)
            self.assertEqual(call, (InvalidPlayer, {"player": "C"}))

    def test_too_many_items_in_1000_rows(self):
        rows = [("AB" * 10, (0, 1) * 10, BIG)] * 1000
        counts = (BIG * 10 ** 4, BIG * 10 ** 4 - 1)
        for function in FUNCTIONS:
            call = error_of(function, counts, rows, "A", **self.further(function))
            self.assertEqual(call, (InvalidCourse, {"index": 999}))
        self.assertIsNone(misfit((BIG * 10 ** 4,) * 2, rows, "A"))
        self.assertEqual(list_count((BIG * 10 ** 4,) * 2, rows, "A"), 1)
        self.assertEqual(parents((BIG * 10 ** 4,) * 2, rows, "B"), [1, None])

    def test_more_errors_at_once(self):
        for function in FUNCTIONS[2:]:
            right = {**RIGHT, **self.further(function)}
            check_wrong(self, function, right, MISFITS)
            check_steps(self, function, right, STEPS + MISFITS)
            check_refused(self, function, {**right, "course": MISFITS[0][1][0][0], "player": "a"}, InvalidPlayer, "a")

    def test_arguments_stay(self):
        for function in FUNCTIONS:
            course = [("A", (0,), 1), ("BA", (0, 1), 1)]
            before = list(course)
            first = function((2, 1), course, "A", **self.further(function))
            self.assertEqual(course, before)
            self.assertEqual(function((2, 1), course, "A", **self.further(function)), first)

    def test_exchanged_players(self):
        exchange = str.maketrans("AB", "BA")
        for counts, course, player in small_courses("exchanged", 200, 0.9):
            other = [(turns.translate(exchange), kinds, times) for turns, kinds, times in course]
            self.assertEqual(misfit(counts, course, player), misfit(counts, other, rival(player)))
            if misfit(counts, course, player) is None:
                self.assertEqual(parents(counts, course, player), parents(counts, other, rival(player)))


if __name__ == "__main__":
    unittest.main()
