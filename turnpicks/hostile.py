"""What a player is sure of against an opponent who may pick anything."""

from turnpicks.blocks import turns_by
from turnpicks.checks import check_enough_items, check_side, check_wanted, is_kind
from turnpicks.errors import InvalidKind, Mismatch
from turnpicks.prefixes import prefix_items, prefix_turns


def sure_counts(counts, ranking, sequence, player):
    """Returns how many items of each prefix of the own list the player is sure of."""
    check_side(counts, ranking, sequence, player)
    check_enough_items(counts, sequence)
    return prefix_turns(counts, ranking, sequence, player)


def sure_bundle(counts, ranking, sequence, player):
    """Returns the bundle that has just the sure counts in the prefixes."""
    sure = sure_counts(counts, ranking, sequence, player)
    bundle = [0] * len(counts)
    for kind, many, before in zip(ranking, sure, [0] + sure):
        bundle[kind] = many - before
    return tuple(bundle)


def is_sure(counts, ranking, sequence, player, wanted):
    """Returns whether the player is sure of at least the wanted number of items of each prefix."""
    check_side(counts, ranking, sequence, player)
    check_wanted(wanted, len(counts))
    check_enough_items(counts, sequence)
    sure = prefix_turns(counts, ranking, sequence, player)
    return all([least <= many for least, many in zip(wanted, sure)])


def safe_picks(counts, ranking, sequence, player):
    """Returns the kinds that the player can pick now so that no sure count falls."""
    check_side(counts, ranking, sequence, player)
    check_enough_items(counts, sequence)
    if len(sequence) == 0 or first_turn(sequence) != player:
        raise Mismatch("player")
    return kinds_down_to(counts, ranking, sequence, player, 1)


def tight_picks(counts, ranking, sequence, player):
    """Returns the kinds that the opponent can pick now so that no sure count of the player rises."""
    check_side(counts, ranking, sequence, player)
    check_enough_items(counts, sequence)
    if len(sequence) == 0 or first_turn(sequence) == player:
        raise Mismatch("player")
    return kinds_down_to(counts, ranking, sequence, player, 0)


def sure_after(counts, ranking, sequence, player, kind):
    """Returns the sure counts of the player after an item of the kind has been picked at the first turn."""
    check_side(counts, ranking, sequence, player)
    if not is_kind(kind, len(counts)) or counts[kind] == 0:
        raise InvalidKind(kind)
    check_enough_items(counts, sequence)
    if len(sequence) == 0:
        raise Mismatch("sequence")
    place = ranking.index(kind)
    items = prefix_items(counts, ranking)
    # A prefix without the kind still has all its items when the second turn comes. A prefix with the kind
    # has lost an item together with the turn, and the item counts if the turn was the player's.
    gone = 1 if first_turn(sequence) == player else 0
    sure = turns_by(sequence, player, [many + 1 for many in items[:place]] + items[place:])
    return [many - gone for many in sure[:place]] + sure[place:]


def first_turn(sequence):
    """Returns the player who has the first pick of a sequence; there is one."""
    turns, _ = sequence[0]
    return turns[0]


def kinds_down_to(counts, ranking, sequence, player, own):
    """Returns the kinds with items, down to the first prefix that ends them.

    It is the first one behind whose items the next pick is not the player's (own is 1), or is (own is 0). The
    first pick of the sequence is not such a one, so no prefix without items ends them.
    """
    items = prefix_items(counts, ranking)
    sure = turns_by(sequence, player, items)
    sure_behind = turns_by(sequence, player, [many + 1 for many in items])
    kinds = []
    for place, kind in enumerate(ranking):
        if counts[kind] > 0:
            kinds.append(kind)
        if sure_behind[place] - sure[place] != own:
            return kinds
    return kinds
