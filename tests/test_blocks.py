"""Parts that are compared without going through the single steps."""

import itertools
import unittest

from helpers import chance_of, letters, slow_difference, some_sequence
from turnpicks.blocks import first_parting, steps_in, times_by, turns_by


class TestBlocks(unittest.TestCase):
    def test_steps_in(self):
        self.assertEqual(steps_in([]), 0)
        self.assertEqual(steps_in([("ABB", 10 ** 40), ([1, 2], 3)]), 3 * 10 ** 40 + 6)

    def test_many_places_at_once(self):
        chance = chance_of("places")
        for _ in range(300):
            sequence = some_sequence(chance, 5, 5, 4)
            whole = letters(sequence)
            places = sorted(chance.randint(0, len(whole) + 2) for _ in range(chance.randint(0, 6)))
            for player in "AB":
                found = [whole[:place].count(player) for place in places]
                self.assertEqual(turns_by(sequence, player, places), found)

    def test_many_numbers_at_once(self):
        chance = chance_of("numbers")
        for _ in range(300):
            sequence = some_sequence(chance, 5, 5, 4)
            whole = letters(sequence)
            numbers = sorted(chance.randint(1, len(whole) + 2) for _ in range(chance.randint(0, 6)))
            for player in "AB":
                places = [place + 1 for place, letter in enumerate(whole) if letter == player]
                found = [places[number - 1] if number <= len(places) else None for number in numbers]
                self.assertEqual(times_by(sequence, player, numbers), found)

    def test_first_parting_of_lists(self):
        one = [([(0, 1), (0, 2)], 4)]
        self.assertIsNone(first_parting(one, [([(0, 1)], 1), ([(0, 2), (0, 1)], 3), ([(0, 2)], 1)]))
        self.assertEqual(first_parting(one, [([(0, 1)], 1), ([(0, 2), (0, 1)], 3), ([(0, 3)], 1)]), 8)

    def test_first_parting_of_all_short_periods(self):
        # Both periods together are the farthest that two different periodic texts agree.
        words = ["".join(word) for size in (1, 2, 3, 4, 5) for word in itertools.product("AB", repeat=size)]
        for one in words:
            for other in words:
                parts = [(one, 12)], [(other, 12)]
                self.assertEqual(first_parting(*parts), slow_difference(one * 12, other * 12))

    def test_first_parting_of_any(self):
        chance = chance_of("parting")
        for _ in range(500):
            one = some_sequence(chance, 4, 3, 6)
            other = some_sequence(chance, 4, 3, 6)
            self.assertEqual(first_parting(one, other), slow_difference(letters(one), letters(other)))


if __name__ == "__main__":
    unittest.main()
