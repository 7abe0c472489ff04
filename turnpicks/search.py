"""Games with few items and known values, in which all picks are gone through."""

from turnpicks.checks import PLAYERS, check_all_items, check_both_values, check_counts, check_enough_items, check_lists
from turnpicks.checks import check_opponent, check_player, check_sequence
from turnpicks.errors import TooLarge

MOST_ITEMS = 8


def search_value(counts, lists, values, sequence, player, opponent):
    """Returns the greatest value that the player can reach."""
    check_valued_game(counts, lists, values, sequence)
    check_player(player)
    check_opponent(opponent)
    check_few_items(counts, sequence, opponent)
    search = Search(counts, values, sequence, player, opponent)
    _, reached = search.best(search.counts)
    return reached[PLAYERS.index(player)]


def search_end(counts, lists, values, sequence):
    """Returns the bundles of A and B if each player makes the own value as great as possible."""
    check_valued_game(counts, lists, values, sequence)
    check_few_items(counts, sequence, "thinking")
    search = Search(counts, values, sequence, "A", "thinking")
    bundles = {"A": [0] * len(counts), "B": [0] * len(counts)}
    left = search.counts
    for player in search.turns:
        index, _ = search.best(left)
        bundles[player][search.kinds[index]] += 1
        left = without(left, index)
    return tuple(bundles["A"]), tuple(bundles["B"])


def search_picks(counts, lists, values, sequence, opponent):
    """Returns the kinds with which the player who has the first pick still reaches the greatest value."""
    check_valued_game(counts, lists, values, sequence)
    check_opponent(opponent)
    check_few_items(counts, sequence, opponent)
    if len(sequence) == 0:
        return []
    turns, _ = sequence[0]
    own = PLAYERS.index(turns[0])
    search = Search(counts, values, sequence, turns[0], opponent)
    worths = [reached[own] for _, reached in search.options(search.counts, own)]
    return [kind for kind, worth in zip(search.kinds, worths) if worth == max(worths)]


def check_valued_game(counts, lists, values, sequence):
    """Raises what a function with just these arguments raises ahead of Mismatch."""
    check_counts(counts)
    check_lists(lists, len(counts))
    check_both_values(values, lists)
    check_sequence(sequence)


def check_few_items(counts, sequence, opponent):
    """Raises Mismatch if the sequence does not go with the items, and TooLarge if these are too many."""
    if opponent == "thinking":
        check_all_items(counts, sequence)
    check_enough_items(counts, sequence)
    if sum(counts) > MOST_ITEMS:
        raise TooLarge(MOST_ITEMS)


class Search:
    """All ways in which a game can go on if the player plays for the own value, and the opponent in a known way.

    Only kinds with items count, each by its index in `kinds`.
    """

    def __init__(self, counts, values, sequence, player, opponent):
        self.kinds = [kind for kind, many in enumerate(counts) if many > 0]
        self.counts = tuple([counts[kind] for kind in self.kinds])
        self.worths = [[worths[kind] for kind in self.kinds] for worths in values]
        self.turns = "".join([turns * times for turns, times in sequence])
        self.player = player
        self.opponent = opponent
        self.known = {}

    def best(self, left):
        """Returns the index of the kind that is picked next, or None, and the values that A and B still reach."""
        if left not in self.known:
            made = sum(self.counts) - sum(left)
            if made == len(self.turns):
                self.known[left] = None, (0, 0)
            else:
                own = PLAYERS.index(self.turns[made])
                options = self.options(left, own)
                liked = [(self.liking(own, index, reached), index, reached) for index, reached in options]
                self.known[left] = max(liked)[1:]
        return self.known[left]

    def options(self, left, own):
        """Returns the index of each kind that can be picked, and the values that A and B reach with this pick."""
        found = []
        for index, many in enumerate(left):
            if many > 0:
                _, reached = self.best(without(left, index))
                one, other = reached
                worth = self.worths[own][index]
                found.append((index, (one + worth, other) if own == 0 else (one, other + worth)))
        return found

    def liking(self, own, index, reached):
        """Returns a number that is the greater, the more the player whose pick it is likes to pick the kind."""
        if self.opponent == "thinking" or PLAYERS[own] == self.player:
            return reached[own]
        if self.opponent == "plain":
            return self.worths[own][index]
        return -reached[1 - own]


def without(left, index):
    """Returns what is left when an item of the kind with this index is picked."""
    return left[:index] + (left[index] - 1,) + left[index + 1:]
