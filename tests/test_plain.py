"""Stage 2: plain_game, plain_course, play_course, check_plain."""

import copy
import inspect
import unittest

import wrong
from helpers import chance_of, check_course_form, error_of, many_games, same, single_picks, slow_difference
from helpers import slow_outcome, slow_plain_picks, some_game, some_sequence
from turnpicks import plain
from turnpicks.blocks import first_parting
from turnpicks.errors import InvalidCounts, InvalidCourse, InvalidLists, InvalidSequence, Mismatch
from turnpicks.plain import check_plain, plain_course, plain_game, play_course
from turnpicks.turns import length, turns_among

BIG = 10 ** 30
HUGE = 10 ** 5000
TOO_MANY = [("AB", 2)]

UP = tuple(range(60))
# Games and courses at the bounds: 60 kinds, 200 blocks, 1000 rows of 20 letters.
LONG_SEQUENCE = [("AB" * 10, 10 ** 20)] * 200
LAST_KIND = (0,) * 59 + (BIG,), (UP, UP), LONG_SEQUENCE
BOTH_ENDS = (BIG,) * 60, (UP, UP[::-1]), LONG_SEQUENCE
LONG_ROW = ("AB" * 10, (0, 1) * 10, 3)
LONG_COURSE = [LONG_ROW] * 1000
LONG_COUNTS = (30000, 30007)
LONG_GAME = LONG_COUNTS, ((0, 1), (1, 0)), [("AB", 30000)]
PLACES = (0, 1, 500, 998, 999)

RIGHT = {"counts": (2, 1), "lists": ((0, 1), (1, 0)), "sequence": [("A", 1)], "course": [("A", (0,), 1)]}
WRONG = {
    "counts": wrong.wrong_counts(), "lists": wrong.wrong_lists(), "sequence": wrong.wrong_sequence(),
    "course": wrong.wrong_course(),
}
CALLS = [
    (plain_game, ["counts", "lists", "sequence"]),
    (plain_course, ["counts", "lists", "sequence"]),
    (play_course, ["counts", "course"]),
    (check_plain, ["counts", "lists", "sequence", "course"]),
]


def small_games():
    chance = chance_of("plain")
    return [((), ((), ()), [])] + [some_game(chance) for _ in range(400)]


def large_games():
    return many_games("large", (6, 6, 30, 30, 2000))


def divided_course(chance, picks):
    """A course with these single picks, divided into rows at any places."""
    course = []
    while picks:
        size = chance.randint(1, min(20, len(picks)))
        times = 1
        while picks[:size * times] == picks[size:size * (times + 1)] and chance.random() < 0.8:
            times += 1
        turns, kinds = zip(*picks[:size])
        course.append(("".join(turns), kinds, times))
        picks = picks[size * times:]
    return course


class TestPlainGame(unittest.TestCase):
    def test_examples(self):
        self.assertEqual(plain_game((2, 1, 1), ((0, 1, 2), (0, 2, 1)), [("AB", 2)]), ((1, 1, 0), (1, 0, 1), (0, 0, 0)))
        call = error_of(plain_game, (1, 1), ((0, 1), (1, 0)), [("AB", 2)])
        self.assertEqual(call, (Mismatch, {"name": "sequence"}))

    def test_single_picks(self):
        for counts, lists, sequence in small_games():
            picks = slow_plain_picks(counts, lists, sequence)
            self.assertEqual(plain_game(counts, lists, sequence), slow_outcome(counts, picks))

    def test_edges(self):
        self.assertEqual(plain_game((), ((), ()), []), ((), (), ()))
        self.assertEqual(plain_game((0, 0), ((0, 1), (1, 0)), ()), ((0, 0), (0, 0), (0, 0)))
        self.assertEqual(plain_game((3, 0), ((1, 0), (1, 0)), [("B", 3)]), ((0, 0), (3, 0), (0, 0)))
        self.assertEqual(plain_game((HUGE, 3), ((1, 0), (0, 1)), []), ((0, 0), (0, 0), (HUGE, 3)))
        self.assertEqual(plain_game((1,), ((0,), (0,)), [("A", 1)]), ((1,), (0,), (0,)))

    def test_huge_numbers(self):
        lists = ((0, 1), (0, 1))
        half = HUGE // 2
        self.assertEqual(plain_game((HUGE, HUGE), lists, [("AB", HUGE)]), ((half, half), (half, half), (0, 0)))
        self.assertEqual(
            plain_game((HUGE, HUGE), lists, [("A", HUGE), ("B", BIG)]),
            ((HUGE, 0), (0, BIG), (0, HUGE - BIG)),
        )
        third = (HUGE - 1) // 3
        self.assertEqual(
            plain_game((HUGE, HUGE), lists, [("AAB", third + 1)]),
            ((2 * third + 1, 1), (third, 1), (0, HUGE - 2)),
        )

    def test_all_items_or_one_too_many(self):
        for counts, lists, sequence in large_games():
            left = sum(counts) - length(sequence)
            full = sequence[:-1] + [("A", left + len(sequence[-1][0]) * sequence[-1][1])]
            self.assertEqual(sum(plain_game(counts, lists, full)[2]), 0)
            beyond = full[:-1] + [("A", full[-1][1] + 1)]
            for function in (plain_game, plain_course):
                self.assertEqual(error_of(function, counts, lists, beyond), (Mismatch, {"name": "sequence"}))
            self.assertEqual(error_of(check_plain, counts, lists, beyond, []), (Mismatch, {"name": "sequence"}))
        self.assertEqual(error_of(plain_game, (), ((), ()), [("A", 1)]), (Mismatch, {"name": "sequence"}))

    def test_large_games(self):
        for counts, lists, sequence in large_games():
            course = plain_course(counts, lists, sequence)
            one, other, left = plain_game(counts, lists, sequence)
            self.assertEqual((one, other, left), play_course(counts, course))
            self.assertEqual(sum(one), turns_among(sequence, "A", sum(counts)))
            self.assertEqual(sum(other), turns_among(sequence, "B", sum(counts)))
            self.assertEqual(tuple(map(sum, zip(one, other, left))), counts)

    def test_blocks_do_not_matter(self):
        for counts, lists, sequence in large_games()[:2]:
            for at in range(0, 199, 20):
                turns, times = sequence[at]
                cut = [(turns, times // 2), (turns, times - times // 2)] if times > 1 else [(turns, times)]
                other = sequence[:at] + cut + sequence[at + 1:199]
                self.assertEqual(plain_game(counts, lists, other), plain_game(counts, lists, sequence[:199]))


    def test_60_kinds_and_200_blocks(self):
        many = 2 * 10 ** 23
        none = (0,) * 59
        self.assertEqual(plain_game(*LAST_KIND), (none + (many,), none + (many,), none + (BIG - 2 * many,)))
        left = (BIG - many,) + (BIG,) * 58 + (BIG - many,)
        self.assertEqual(plain_game(*BOTH_ENDS), ((many,) + none, none + (many,), left))

    def test_60_kinds_used_up_in_200_blocks(self):
        counts = (10 ** 20 * 4000 // 60 + 1,) * 60
        for lists in ((UP, UP), (UP, UP[::-1]), (UP[::-1], UP[30:] + UP[:30])):
            one, other, left = plain_game(counts, lists, LONG_SEQUENCE)
            self.assertEqual((one, other, left), play_course(counts, plain_course(counts, lists, LONG_SEQUENCE)))
            many = 2 * 10 ** 23
            self.assertEqual((sum(one), sum(other), sum(left)), (many, many, sum(counts) - 2 * many))


class TestPlainCourse(unittest.TestCase):
    def check_plain_picks(self, counts, lists, course):
        # Kinds run out and never come back: so if the first and the last round of a row are plain,
        # those between them are plain too.
        left = list(counts)
        for turns, kinds, times in course:
            for passed in {0, times - 1}:
                rest = [many - passed * kinds.count(kind) for kind, many in enumerate(left)]
                for player, kind in zip(turns, kinds):
                    ranking = lists["AB".index(player)]
                    self.assertEqual(kind, next(kind for kind in ranking if rest[kind] > 0))
                    rest[kind] -= 1
            left = [many - times * kinds.count(kind) for kind, many in enumerate(left)]

    def test_single_picks(self):
        for counts, lists, sequence in small_games():
            course = plain_course(counts, lists, sequence)
            check_course_form(self, counts, course)
            self.assertEqual(single_picks(course), slow_plain_picks(counts, lists, sequence))

    def test_large_games(self):
        for counts, lists, sequence in large_games():
            course = plain_course(counts, lists, sequence)
            check_course_form(self, counts, course)
            self.check_plain_picks(counts, lists, course)
            # The course has more rows than a sequence may have blocks, so first_difference cannot compare them.
            self.assertIsNone(first_parting([(turns, times) for turns, _, times in course], sequence))

    def test_60_kinds_and_200_blocks(self):
        for counts, lists, sequence in (LAST_KIND, BOTH_ENDS):
            course = plain_course(counts, lists, sequence)
            check_course_form(self, counts, course)
            self.check_plain_picks(counts, lists, course)
            self.assertEqual(play_course(counts, course), plain_game(counts, lists, sequence))
            self.assertIsNone(check_plain(counts, lists, sequence, course))

    def test_many_changes_in_long_blocks(self):
        # Each kind runs out within a round, and the lists lead the players through the kinds from both ends.
        up = tuple(range(60))
        for lists in ((up, up), (up, up[::-1]), (up[::-1], up[30:] + up[:30])):
            for turns in ("A" * 20, "AB" * 10, "ABBABAABBAABABBABAAB", "AAABBBAAABBBAAABBB", "A"):
                for many in (1, 7, 19, 21, 20 * BIG + 13, HUGE + 1):
                    counts = tuple(many + kind % 3 for kind in range(60))
                    sequence = [(turns, sum(counts) // len(turns))]
                    if sequence[0][1]:
                        course = plain_course(counts, lists, sequence)
                        check_course_form(self, counts, course)
                        self.check_plain_picks(counts, lists, course)
                        self.assertIsNone(check_plain(counts, lists, sequence, course))

    def test_edges(self):
        self.assertEqual(plain_course((), ((), ()), []), [])
        self.assertEqual(plain_course((5,), ((0,), (0,)), ()), [])
        course = plain_course((2, 2), ((0, 1), (0, 1)), [("ABAB", 1)])
        self.assertEqual(single_picks(course), [("A", 0), ("B", 0), ("A", 1), ("B", 1)])
        course = plain_course((HUGE,), ((0,), (0,)), [("A" * 20, HUGE // 20)])
        check_course_form(self, (HUGE,), course)
        self.assertEqual(play_course((HUGE,), course), ((HUGE,), (0,), (0,)))


class TestPlayCourse(unittest.TestCase):
    def test_examples(self):
        self.assertEqual(play_course((3, 1), [("AB", (0, 0), 1), ("A", (1,), 1)]), ((1, 1), (1, 0), (1, 0)))
        call = error_of(play_course, (3, 1), [("A", (0,), 2), ("B", (0,), 2)])
        self.assertEqual(call, (InvalidCourse, {"index": 1}))

    def test_single_picks(self):
        chance = chance_of("play")
        refused = 0
        for _ in range(600):
            kinds = chance.randint(1, 4)
            counts = tuple(chance.randint(0, 25) for _ in range(kinds))
            course = [
                (turns, tuple(chance.randrange(kinds) for _ in turns), times)
                for turns, times in some_sequence(chance, 5, 4, 3)
            ]
            wanted = None
            for index in range(len(course)):
                if wanted is None and min(slow_outcome(counts, single_picks(course[:index + 1]))[2]) < 0:
                    wanted = index
            if wanted is None:
                self.assertEqual(play_course(counts, course), slow_outcome(counts, single_picks(course)))
            else:
                refused += 1
                self.assertEqual(error_of(play_course, counts, course), (InvalidCourse, {"index": wanted}))
        self.assertTrue(100 < refused < 500)

    def test_edges(self):
        self.assertEqual(play_course((), []), ((), (), ()))
        self.assertEqual(play_course((0, 3), []), ((0, 0), (0, 0), (0, 3)))
        self.assertEqual(play_course((1000,), [("A", (0,), 1)] * 1000), ((1000,), (0,), (0,)))
        self.assertEqual(error_of(play_course, (999,), [("A", (0,), 1)] * 1000), (InvalidCourse, {"index": 999}))
        self.assertEqual(play_course((40,), [("AB" * 10, (0,) * 20, 2)]), ((20,), (20,), (0,)))
        self.assertEqual(error_of(play_course, (), [("A", (0,), 1)]), (InvalidCourse, {"index": 0}))

    def test_huge_numbers(self):
        course = [("ABA", (1, 0, 0), HUGE), ("B", (1,), BIG)]
        self.assertEqual(play_course((2 * HUGE, HUGE + BIG), course), ((HUGE, HUGE), (HUGE, BIG), (0, 0)))
        self.assertEqual(error_of(play_course, (2 * HUGE - 1, HUGE + BIG), course), (InvalidCourse, {"index": 0}))
        self.assertEqual(error_of(play_course, (2 * HUGE, HUGE + BIG - 1), course), (InvalidCourse, {"index": 1}))

    def test_rows_are_looked_at_before_items(self):
        course = [("A", (0,), 9), ("A", (2,), 1)]
        self.assertEqual(error_of(play_course, (3, 1), course), (InvalidCourse, {"index": 1}))
        self.assertEqual(error_of(play_course, (3, 1), course[:1]), (InvalidCourse, {"index": 0}))

    def test_1000_rows_of_20_letters(self):
        self.assertEqual(play_course(LONG_COUNTS, LONG_COURSE), ((30000, 0), (0, 30000), (0, 7)))

    def test_wrong_rows_among_1000(self):
        for at in PLACES:
            for row in (None, ("AB" * 10, (0, 1) * 9 + (0, True), 3), ("AB" * 10, (0, 1) * 10, 0),
                        ("AB" * 10, (0, 2) * 10, 3), ("AC" * 10, (0, 1) * 10, 3), ("AB" * 10, [0, 1] * 10, 3)):
                course = LONG_COURSE[:at] + [row] + LONG_COURSE[at + 1:]
                self.assertEqual(error_of(play_course, LONG_COUNTS, course), (InvalidCourse, {"index": at}))
            # Row `at` takes the first item too many, of the one kind or of the other.
            self.assertEqual(error_of(play_course, (30 * at, 30007), LONG_COURSE), (InvalidCourse, {"index": at}))
            self.assertEqual(error_of(play_course, (30000, 30 * at + 29), LONG_COURSE), (InvalidCourse, {"index": at}))
            taken = LONG_COURSE[:at] + [("AB" * 10, (1, 1) * 10, 3)] + LONG_COURSE[at + 1:]
            index = max(at, 999)
            self.assertEqual(error_of(play_course, (30000, 30029), taken), (InvalidCourse, {"index": index}))

    def test_1000_different_rows(self):
        chance = chance_of("different rows")
        course = []
        for _ in range(1000):
            turns = "".join(chance.choice("AB") for _ in range(20))
            course.append((turns, tuple(chance.randrange(60) for _ in turns), chance.randint(1, 3)))
        one, other, left = slow_outcome((3000,) * 60, single_picks(course))
        self.assertEqual(play_course((3000,) * 60, course), (one, other, left))
        for kind in (0, 30, 59):
            taken = one[kind] + other[kind]
            counts = (3000,) * kind + (taken - 1,) + (3000,) * (59 - kind)
            last = max(index for index, row in enumerate(course) if kind in row[1])
            self.assertEqual(error_of(play_course, counts, course), (InvalidCourse, {"index": last}))

    def test_within_one_row(self):
        self.assertEqual(error_of(play_course, (1, 9), [("AB", (0, 0), 1)]), (InvalidCourse, {"index": 0}))
        self.assertEqual(error_of(play_course, (3, 9), [("AB", (0, 0), 2)]), (InvalidCourse, {"index": 0}))
        self.assertEqual(play_course((4, 9), [("AB", (0, 0), 2)]), ((2, 0), (2, 0), (0, 9)))


class TestCheckPlain(unittest.TestCase):
    def refused(self, counts, lists, sequence, course, index):
        self.assertEqual(error_of(check_plain, counts, lists, sequence, course), (InvalidCourse, {"index": index}))

    def row_of(self, course, number):
        """The index of the row with the pick of this number, by single picks."""
        for index in range(len(course)):
            if len(single_picks(course[:index + 1])) >= number:
                return index
        return len(course)

    def test_examples(self):
        lists = ((0, 1), (0, 1))
        self.assertIsNone(check_plain((4, 1), lists, [("AB", 2)], [("ABAB", (0, 0, 0, 0), 1)]))
        self.refused((4, 1), lists, [("AB", 2)], [("A", (0,), 1), ("B", (1,), 1)], 1)

    def test_however_divided(self):
        chance = chance_of("check")
        for counts, lists, sequence in small_games():
            picks = slow_plain_picks(counts, lists, sequence)
            self.assertIsNone(check_plain(counts, lists, sequence, divided_course(chance, picks)))
            self.assertIsNone(check_plain(counts, lists, tuple(sequence), plain_course(counts, lists, sequence)))

    def test_single_picks(self):
        chance = chance_of("wrong picks")
        for counts, lists, sequence in small_games():
            picks = slow_plain_picks(counts, lists, sequence)
            if not picks:
                continue
            for _ in range(4):
                other = list(picks)
                for _ in range(chance.randint(1, 2)):
                    place = chance.randrange(len(other))
                    way = chance.randrange(4)
                    if way == 0:
                        other[place] = ("BA"["AB".index(other[place][0])], other[place][1])
                    elif way == 1:
                        other[place] = (other[place][0], chance.randrange(len(counts)))
                    elif way == 2:
                        other.insert(place, chance.choice(picks))
                    else:
                        other = other[:place] or other
                course = divided_course(chance, other)
                number = slow_difference(other, picks)
                if number is None:
                    self.assertIsNone(check_plain(counts, lists, sequence, course))
                else:
                    self.refused(counts, lists, sequence, course, self.row_of(course, number))

    def test_too_many_and_missing(self):
        lists = ((0, 1), (0, 1))
        course = [("AB", (0, 0), 1), ("A", (0,), 1)]
        self.refused((4, 1), lists, [("AB", 2)], course, 2)
        self.refused((4, 1), lists, [("AB", 2)], [], 0)
        self.refused((4, 1), lists, [], course, 0)
        self.refused((4, 1), lists, [("AB", 1)], course, 1)
        self.refused((4, 1), lists, [("AB", 1)], [("AB", (0, 0), 2)], 0)
        self.assertIsNone(check_plain((), ((), ()), [], []))
        self.assertIsNone(check_plain((4, 1), lists, [], []))

    def test_more_than_there_are(self):
        self.refused((2,), ((0,), (0,)), [("A", 2)], [("A", (0,), 2), ("A", (0,), 1)], 1)
        self.refused((2,), ((0,), (0,)), [("A", 2)], [("A", (0,), 3)], 0)
        self.refused((2, 2), ((0, 1), (0, 1)), [("A", 4)], [("A", (0,), 2), ("A", (0,), 2)], 1)

    def test_huge_numbers(self):
        lists = ((0, 1), (0, 1))
        counts = (HUGE, HUGE)
        sequence = [("AB", HUGE)]
        half = HUGE // 2
        self.assertIsNone(check_plain(counts, lists, sequence, [("AB", (0, 0), half), ("AB", (1, 1), half)]))
        self.assertIsNone(
            check_plain(counts, lists, sequence, [("A", (0,), 1), ("BA", (0, 0), half - 1), ("BA", (0, 1), 1),
                                                  ("BA", (1, 1), half - 1), ("B", (1,), 1)]))
        self.refused(counts, lists, sequence, [("AB", (0, 0), half), ("AB", (1, 1), half - 1)], 2)
        self.refused(counts, lists, sequence, [("AB", (0, 0), half), ("AB", (1, 1), half + 1)], 1)
        self.refused(counts, lists, sequence, [("AB", (0, 0), half + 1), ("AB", (1, 1), half - 1)], 0)
        self.refused(counts, lists, sequence, [("AB", (0, 0), half - 1), ("AB", (1, 1), half + 1)], 1)
        self.refused(counts, lists, sequence, [("AB", (0, 0), half), ("AB", (1, 1), 1), ("BA", (1, 1), half - 1)], 2)

    def test_large_courses(self):
        for counts, lists, sequence in large_games():
            course = plain_course(counts, lists, sequence)
            self.assertIsNone(check_plain(counts, lists, sequence, course))
            cut = []
            for turns, kinds, times in course:
                half = times // 2
                cut += [(turns, kinds, part) for part in (half, times - half) if part]
            self.assertIsNone(check_plain(counts, lists, sequence, cut))
            self.refused(counts, lists, sequence, cut[:-1], len(cut) - 1)
            self.refused(counts, lists, sequence, cut + [("A", (0,), 1)], len(cut))
            for at in range(0, len(cut), 41):
                turns, kinds, times = cut[at]
                other_kind = cut[:at] + [(turns, kinds[:-1] + ((kinds[-1] + 1) % 60,), times)] + cut[at + 1:]
                self.refused(counts, lists, sequence, other_kind, at)
                other_player = "BA"["AB".index(turns[-1])]
                other_turns = cut[:at] + [(turns[:-1] + other_player, kinds, times)] + cut[at + 1:]
                self.refused(counts, lists, sequence, other_turns, at)
                last_round = [(turns, kinds, times - 1), (turns, kinds[:-1] + ((kinds[-1] + 1) % 60,), 1)]
                if times > 1:
                    self.refused(counts, lists, sequence, cut[:at] + last_round + cut[at + 1:], at + 1)

    def test_1000_rows_of_20_letters(self):
        self.assertIsNone(check_plain(*LONG_GAME, LONG_COURSE))
        self.refused(*LONG_GAME, LONG_COURSE[:-1], 999)
        self.refused(LONG_COUNTS, LONG_GAME[1], [("AB", 29999)], LONG_COURSE, 999)
        self.refused(LONG_COUNTS, LONG_GAME[1], [("AB", 15000)], LONG_COURSE, 500)

    def test_wrong_rows_among_1000(self):
        turns, kinds, times = LONG_ROW
        for at in PLACES:
            for row in (None, (turns, kinds[:-1] + (2,), times), (turns, kinds[:-1] + (True,), times),
                        (turns, kinds, 0)):
                self.refused(*LONG_GAME, LONG_COURSE[:at] + [row] + LONG_COURSE[at + 1:], at)
                self.refused(*LONG_GAME, LONG_COURSE[:at] + [row] + [None] * (999 - at), at)
            for row in ((turns, (1,) + kinds[1:], times), (turns, kinds[:-1] + (0,), times),
                        ("B" + turns[1:], kinds, times), (turns[:-1] + "A", kinds, times),
                        (turns, kinds, times - 1), (turns, kinds, times + 1)):
                index = at if row[1] != kinds or row[0] != turns else 999 if row[2] == times + 1 else 1000
                self.refused(*LONG_GAME, LONG_COURSE[:at] + [row] + LONG_COURSE[at + 1:], index)

    def test_a_wrong_kind_ahead_of_a_wrong_player(self):
        course = [("AB", (0, 1), 1)] * 9
        game = (9, 9), ((0, 1), (1, 0)), [("AB", 9)]
        kind, player, both = ("AB", (0, 0), 1), ("BB", (0, 1), 1), ("BA", (1, 1), 1)
        self.refused(*game, course[:3] + [kind, player] + course[5:], 3)
        self.refused(*game, course[:3] + [player, kind] + course[5:], 3)
        self.refused(*game, course[:4] + [both] + course[5:], 4)
        self.refused(*game, course[:4] + [("ABAA", (1, 1, 0, 1), 1)] + course[6:], 4)
        self.refused(*game, course[:8] + [kind], 8)
        self.refused(*game, course + [kind], 9)

    def test_1000_rows(self):
        lists = ((0, 1), (1, 0))
        course = [("A", (0,), 1)] * 999
        self.assertIsNone(check_plain((1000, 5), lists, [("A", 1000)], course + [("A", (0,), 1)]))
        self.refused((1000, 5), lists, [("A", 1000)], course, 999)
        self.refused((1000, 5), lists, [("A", 1000)], course + [("A", (1,), 1)], 999)
        self.refused((1000, 5), lists, [("A", 1000)], course + [("A", (0,), 1)] * 2, -1)


class TestArguments(unittest.TestCase):
    def test_names_and_place(self):
        for function, names in CALLS:
            self.assertEqual(list(inspect.signature(function).parameters), names)
            self.assertEqual(function.__module__, plain.__name__)
            right = {name: RIGHT[name] for name in names}
            self.assertEqual(function(**right), function(*right.values()))

    def test_wrong_arguments(self):
        for function, names in CALLS:
            right = {name: RIGHT[name] for name in names}
            for name in names:
                for value, error, told in WRONG[name]:
                    found, kept = error_of(function, **{**right, name: value})
                    self.assertIs(found, error, (function.__name__, name))
                    self.assertEqual(len(kept), 1)
                    self.assertTrue(all(same(one, told) for one in kept.values()))

    def test_the_first_wrong_argument_decides(self):
        for function, names in CALLS:
            right = {name: RIGHT[name] for name in names}
            for at, name in enumerate(names):
                for value, error, told in WRONG[name][::5]:
                    for last in (0, 1, -1):
                        named = {**right, name: value, **{later: WRONG[later][last][0] for later in names[at + 1:]}}
                        found, kept = error_of(function, **named)
                        self.assertIs(found, error)
                        self.assertTrue(all(same(one, told) for one in kept.values()))

    def test_mismatch_comes_last(self):
        right = {**RIGHT, "sequence": TOO_MANY}
        for function, names in CALLS:
            if "sequence" in names:
                named = {name: right[name] for name in names}
                self.assertEqual(error_of(function, **named), (Mismatch, {"name": "sequence"}))
                for name in names:
                    value, error, told = WRONG[name][0]
                    found, _ = error_of(function, **{**named, name: value})
                    self.assertIs(found, error)

    def test_errors_of_several_arguments(self):
        self.assertEqual(error_of(plain_game, [1], None, None), (InvalidCounts, {"counts": [1]}))
        self.assertEqual(error_of(plain_game, (1,), ((0,), (1,)), None), (InvalidLists, {"index": 1}))
        self.assertEqual(error_of(plain_course, (1,), ((0,), (0,)), [("A", 2), 5]), (InvalidSequence, {"index": 1}))
        call = error_of(check_plain, (1,), ((0,), (0,)), [("A", 2)], [("A", (1,), 1)])
        self.assertEqual(call, (InvalidCourse, {"index": 0}))
        call = error_of(check_plain, (1,), ((0,), (0,)), [("A", 2)], [("A", (0,), 1)])
        self.assertEqual(call, (Mismatch, {"name": "sequence"}))

    def test_lists_go_with_counts(self):
        for function, names in CALLS[:2]:
            self.assertEqual(error_of(function, (), ((), (0,)), []), (InvalidLists, {"index": 1}))
            self.assertEqual(error_of(function, (1,), ((0, 1), (0,)), []), (InvalidLists, {"index": 0}))
            self.assertEqual(error_of(function, (), [(), ()], []), (InvalidLists, {"index": -1}))

    def test_60_kinds_and_no_more(self):
        up = tuple(range(60))
        self.assertEqual(plain_game((1,) * 60, (up, up), [("A", 60)]), ((1,) * 60, (0,) * 60, (0,) * 60))
        self.assertEqual(play_course((1,) * 60, [("A", (59,), 1)])[0], (0,) * 59 + (1,))
        counts = (1,) * 61
        for function, names in CALLS:
            right = {**{name: RIGHT[name] for name in names}, "counts": counts}
            self.assertEqual(error_of(function, **right), (InvalidCounts, {"counts": counts}))

    def test_arguments_stay_and_results_are_new(self):
        for counts, lists, sequence in small_games()[:50]:
            before = copy.deepcopy(sequence)
            course = plain_course(counts, lists, sequence)
            rows = list(course)
            self.assertEqual(plain_game(counts, lists, sequence), plain_game(counts, lists, tuple(sequence)))
            self.assertEqual(course, plain_course(counts, lists, tuple(sequence)))
            play_course(counts, course)
            check_plain(counts, lists, sequence, course)
            self.assertEqual((sequence, course), (before, rows))
            course.append("more")
            self.assertEqual(plain_course(counts, lists, sequence), rows)
            self.assertEqual(sequence, before)
            for bundle in plain_game(counts, lists, sequence):
                self.assertIs(type(bundle), tuple)


if __name__ == "__main__":
    unittest.main()
