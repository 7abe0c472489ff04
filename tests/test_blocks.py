"""Parts that are compared, and turns that are found, without going through the single steps."""

import itertools
import unittest

from helpers import chance_of, letters, slow_difference, some_sequence
from turnpicks.blocks import Turns, Walk, first_parting, steps_in, times_by, turns_behind, turns_by


class TestBlocks(unittest.TestCase):
    def test_steps_in(self):
        self.assertEqual(steps_in([]), 0)
        self.assertEqual(steps_in([("ABB", 10 ** 40), ([1, 2], 3)]), 3 * 10 ** 40 + 6)

    def test_many_places_at_once(self):
        chance = chance_of("places")
        for _ in range(300):
            sequence = some_sequence(chance, 5, 5, 4)
            whole = letters(sequence)
            places = sorted(chance.randint(0, len(whole) + 2) for _ in range(chance.randint(0, 6)))
            for player in "AB":
                found = [whole[:place].count(player) for place in places]
                self.assertEqual(turns_by(sequence, player, places), found)

    def test_many_numbers_at_once(self):
        chance = chance_of("numbers")
        for _ in range(300):
            sequence = some_sequence(chance, 5, 5, 4)
            whole = letters(sequence)
            numbers = sorted(chance.randint(1, len(whole) + 2) for _ in range(chance.randint(0, 6)))
            for player in "AB":
                places = [place + 1 for place, letter in enumerate(whole) if letter == player]
                found = [places[number - 1] if number <= len(places) else None for number in numbers]
                self.assertEqual(times_by(sequence, player, numbers), found)

    def test_first_parting_of_lists(self):
        one = [([(0, 1), (0, 2)], 4)]
        self.assertIsNone(first_parting(one, [([(0, 1)], 1), ([(0, 2), (0, 1)], 3), ([(0, 2)], 1)]))
        self.assertEqual(first_parting(one, [([(0, 1)], 1), ([(0, 2), (0, 1)], 3), ([(0, 3)], 1)]), 8)

    def test_first_parting_of_all_short_periods(self):
        # Both periods together are the farthest that two different periodic texts agree.
        words = ["".join(word) for size in (1, 2, 3, 4, 5) for word in itertools.product("AB", repeat=size)]
        for one in words:
            for other in words:
                parts = [(one, 12)], [(other, 12)]
                self.assertEqual(first_parting(*parts), slow_difference(one * 12, other * 12))

    def test_first_parting_of_any(self):
        chance = chance_of("parting")
        for _ in range(500):
            one = some_sequence(chance, 4, 3, 6)
            other = some_sequence(chance, 4, 3, 6)
            self.assertEqual(first_parting(one, other), slow_difference(letters(one), letters(other)))

    def test_skip_and_read(self):
        chance = chance_of("walk")
        for _ in range(200):
            sequence = some_sequence(chance, 5, 5, 4)
            whole = letters(sequence)
            walk = Walk(sequence)
            at = 0
            while at <= len(whole):
                many = chance.randint(0, 9)
                if chance.random() < 0.5:
                    walk.skip(many)
                else:
                    self.assertEqual(walk.read(many), whole[at:at + many])
                at += max(many, 1)
                walk.skip(max(many, 1) - many)
            self.assertEqual(walk.read(10), "")
            walk.skip(10 ** 40)
            self.assertEqual(walk.room, 0)

    def test_turns_behind_many_places(self):
        chance = chance_of("turns behind")
        for _ in range(300):
            sequence = some_sequence(chance, 5, 5, 4)
            whole = letters(sequence)
            places = sorted(chance.randint(0, len(whole) + 5) for _ in range(chance.randint(0, 6)))
            many = chance.randint(0, 8)
            wanted = [whole[place:place + many] for place in places]
            self.assertEqual(turns_behind(sequence, places, many), wanted)
        big = 10 ** 40
        found = turns_behind([("AAB", big), ("BA", big)], [0, 2, big * 3 - 2, big * 5 - 1, big * 5, big * 7], 4)
        self.assertEqual(found, ["AABA", "BAAB", "ABBA", "A", "", ""])

    def test_first_turn_behind_all_places(self):
        chance = chance_of("first behind")
        for _ in range(300):
            sequence = some_sequence(chance, 6, 4, 4)
            whole = letters(sequence)
            turns = Turns(sequence)
            for player in "AB":
                for place in range(len(whole) + 1):
                    found = whole.find(player, place)
                    self.assertEqual(turns.first_behind(player, place), (found if found >= 0 else len(whole)) + 1)
        big = 10 ** 40
        turns = Turns([("AAB", big), ("A", big), ("B", 1)])
        found = [turns.first_behind("B", at) for at in (0, 3, 3 * big - 1, 3 * big)]
        self.assertEqual(found, [3, 6, 3 * big, 4 * big + 1])
        self.assertEqual(turns.first_behind("A", 4 * big), 4 * big + 2)


if __name__ == "__main__":
    unittest.main()
