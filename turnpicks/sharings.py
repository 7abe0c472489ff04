"""Sharings of all items, and the sequences with which plain picking leads to them."""

from itertools import accumulate

from turnpicks.blocks import steps_in
from turnpicks.bundles import greedy_bundle
from turnpicks.checks import PLAYERS, check_counts, check_own_lists, check_part, check_player, check_ranking
from turnpicks.checks import check_sequence, check_sharing, is_bundle, kinds_in
from turnpicks.errors import InvalidBundle, TooLarge
from turnpicks.game import Game
from turnpicks.prefixes import prefix_items
from turnpicks.turns import OTHER

MOST_COUNTED = 200


def compare(ranking, one, other):
    """Returns how one bundle stands to the other one for a list: "equal", "better", "worse" or "unclear"."""
    check_ranking(ranking, kinds_in(ranking))
    for index, bundle in enumerate((one, other)):
        if not is_bundle(bundle, len(ranking)):
            raise InvalidBundle(index)
    if one == other:
        return "equal"
    gains = [many - its for many, its in zip(prefix_items(one, ranking), prefix_items(other, ranking))]
    if min(gains) >= 0:
        return "better"
    if max(gains) <= 0:
        return "worse"
    return "unclear"


def common_swap(lists, sharing):
    """Returns the smallest swap of an item of A for one of B that both like, or None."""
    check_own_sharing(lists, sharing)
    return smallest_swap(lists, sharing)


def improved(lists, sharing):
    """Returns a sharing without a common swap that is at least as good for both players."""
    check_own_sharing(lists, sharing)
    counts = counts_of(sharing)
    # As long as A holds no more of any prefix of B's list than before, B has nothing to complain of. What A
    # likes best of all that is left to choose then leaves no swap that would please both.
    limits = prefix_items(sharing[0], lists[1])
    bundle = greedy_bundle(counts, lists[1], limits, lists[0])
    return bundle, tuple([many - own for many, own in zip(counts, bundle)])


def first_sequence(lists, sharing):
    """Returns the sequence of the sharing in which A's turns are as early as possible, or None."""
    check_own_sharing(lists, sharing)
    return earliest_turns(lists, sharing, "A")


def last_sequence(lists, sharing):
    """Returns the sequence of the sharing in which A's turns are as late as possible, or None."""
    check_own_sharing(lists, sharing)
    return earliest_turns(lists, sharing, "B")


def is_sequence_of(lists, sharing, sequence):
    """Returns whether plain picking along the sequence leads to the sharing and leaves nothing."""
    check_own_sharing(lists, sharing)
    check_sequence(sequence)
    counts = counts_of(sharing)
    if steps_in(sequence) != sum(counts):
        return False
    game = Game(counts, lists)
    game.play(sequence)
    return game.shared() == sharing


def count_sequences(lists, sharing):
    """Returns the number of sequences with which plain picking leads to the sharing."""
    check_own_sharing(lists, sharing)
    if sum(counts_of(sharing)) > MOST_COUNTED:
        raise TooLarge(MOST_COUNTED)
    if smallest_swap(lists, sharing) is not None:
        return 0
    one, other = [single_needs(needs_of(lists, sharing, player)) for player in PLAYERS]
    return count_ways(one, other)


def latest_turns(counts, ranking, player, wanted):
    """Returns the sequence with the latest turns of the player that are early enough for the wanted bundle."""
    check_counts(counts)
    check_ranking(ranking, len(counts))
    check_player(player)
    check_part(wanted, counts)
    blocks = []
    for kind in ranking:
        add_turns(blocks, OTHER[player], counts[kind] - wanted[kind])
        add_turns(blocks, player, wanted[kind])
    return blocks


def check_own_sharing(lists, sharing):
    """Raises what a function with just these arguments raises."""
    check_own_lists(lists)
    check_sharing(sharing, len(lists[0]))


def counts_of(sharing):
    """Returns the counts of a sharing: those of the items of both bundles."""
    one, other = sharing
    return tuple([many + its for many, its in zip(one, other)])


def smallest_swap(lists, sharing):
    """Returns the smallest common swap of a sharing, or None."""
    one, other = sharing
    better = kinds_ahead(lists[0], other)
    worse = kinds_ahead(lists[1][::-1], other)
    for give, many in enumerate(one):
        takes = better[give] & worse[give]
        if many > 0 and takes > 0:
            # This is the place of the lowest bit.
            return give, (takes & -takes).bit_length() - 1
    return None


def kinds_ahead(ranking, bundle):
    """Returns, for each kind, the kinds of the bundle that a list has ahead of it: bit i stands for kind i."""
    ahead = [0] * len(ranking)
    passed = 0
    for kind in ranking:
        ahead[kind] = passed
        if bundle[kind] > 0:
            passed += 1 << kind
    return ahead


def needs_of(lists, sharing, player):
    """Returns the picks of the player as pairs (number, need).

    So many picks in a row need so many picks of the other ahead of them: a kind can be picked plainly only when
    the other has picked all items of those kinds that the player likes better.
    """
    own = PLAYERS.index(player)
    ranking = lists[1 - own]
    made = dict(zip(ranking, prefix_items(sharing[1 - own], ranking)))
    needs = []
    need = 0
    for kind in lists[own]:
        if sharing[own][kind] > 0:
            needs.append((sharing[own][kind], need))
        if sharing[1 - own][kind] > 0:
            need = max(need, made[kind])
    return needs


def earliest_turns(lists, sharing, player):
    """Returns the sequence of the sharing in which this player's turns are as early as possible, or None."""
    if smallest_swap(lists, sharing) is not None:
        return None
    blocks = []
    made = 0
    for many, need in needs_of(lists, sharing, player):
        add_turns(blocks, OTHER[player], need - made)
        add_turns(blocks, player, many)
        made = need
    add_turns(blocks, OTHER[player], sum(sharing[1 - PLAYERS.index(player)]) - made)
    return blocks


def add_turns(blocks, player, many):
    """Adds so many turns of the player, perhaps none, to blocks of turns of one player and the other."""
    if many == 0:
        return
    if len(blocks) > 0 and blocks[-1][0] == player:
        many += blocks.pop()[1]
    blocks.append((player, many))


def single_needs(needs):
    """Returns the need of each single pick."""
    return [need for many, need in needs for _ in range(many)]


def count_ways(one, other):
    """Returns the number of orders of the picks of both players in which each pick has what it needs ahead of it."""
    # ways[i] is the number of orders of the picks so far, of which low + i are the other's. A last pick that
    # needs all picks of the other adds no orders, and leaves those of all picks.
    ways = [1]
    low = 0
    high = 0
    for made, need in enumerate(one + [len(other)]):
        while high < len(other) and other[high] <= made:
            ways.append(ways[-1])
            high += 1
        ways = list(accumulate(ways[need - low:]))
        low = need
    return ways[-1]
