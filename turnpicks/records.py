"""Records of games: what each pick has cost the player who made it."""

from turnpicks.blocks import steps_in, turns_behind
from turnpicks.checks import MOST_BLOCKS, check_all_items, check_counts, check_enough_items, check_lists
from turnpicks.checks import check_opponent, check_picks, check_player, check_sequence
from turnpicks.errors import TooLarge
from turnpicks.outlooks import left_items, standings_of


class Record:
    """The picks of a game, or of its beginning."""

    def __init__(self, counts, lists, sequence, picks):
        check_counts(counts)
        check_lists(lists, len(counts))
        check_sequence(sequence)
        check_picks(picks, counts, steps_in(sequence))
        check_enough_items(counts, sequence)
        # The rest of a sequence may have one block more, and must still be a sequence.
        if len(sequence) == MOST_BLOCKS:
            raise TooLarge(MOST_BLOCKS - 1)
        self.counts = counts
        self.lists = lists
        self.sequence = tuple(sequence)
        self.picks = tuple(zip(turns_behind(sequence, [0], len(picks))[0], picks))

    def bundles(self):
        """Returns the bundles that A and B have picked."""
        picked = {"A": [0] * len(self.counts), "B": [0] * len(self.counts)}
        for player, kind in self.picks:
            picked[player][kind] += 1
        return tuple(picked["A"]), tuple(picked["B"])

    def items_left(self):
        """Returns the counts of the items that are left."""
        return left_items(self.counts, self.picks)[-1]

    def standings(self, player, opponent):
        """Returns the standings of the player before the first pick and after each pick."""
        check_player(player)
        check_opponent(opponent)
        if opponent == "thinking":
            check_all_items(self.counts, self.sequence)
        return standings_of(self.counts, self.lists, self.sequence, self.picks, player, opponent)

    def losses(self, player, opponent):
        """Returns the player's picks that lower the standing, each with how much every entry falls."""
        standings = self.standings(player, opponent)
        found = []
        for index, (turn, _) in enumerate(self.picks):
            falls = tuple([one - other for one, other in zip(standings[index], standings[index + 1])])
            if turn == player and any([fall > 0 for fall in falls]):
                found.append((index, falls))
        return found

    def first_loss(self, player, opponent):
        """Returns the first of the losses, or None."""
        losses = self.losses(player, opponent)
        return losses[0] if len(losses) > 0 else None
