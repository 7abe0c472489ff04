"""What a player still gets in the rest of a recorded game: before its first pick, and after each of its picks.

The picks are given as pairs (player, kind), and the results have an entry for each of these moments.
"""

from turnpicks.blocks import turns_behind, turns_by
from turnpicks.bundles import greedy_bundle
from turnpicks.checks import PLAYERS
from turnpicks.ending import Ending
from turnpicks.prefixes import places_in, prefix_items


def standings_of(counts, lists, sequence, picks, player, opponent):
    """Returns the standings of the player against the opponent."""
    own = PLAYERS.index(player)
    ranking = lists[own]
    if opponent == "plain":
        rests = plain_rests(counts, ranking, lists[1 - own], sequence, picks, player)
    elif opponent == "hostile":
        rests = caps_of_rests(counts, ranking, sequence, picks, player)
    else:
        rests = thinking_rests(counts, lists, sequence, picks, player)
    had = had_items(ranking, picks, player)
    return [tuple([many + more for many, more in zip(now, rest)]) for now, rest in zip(had, rests)]


def had_items(ranking, picks, player):
    """Returns how many items of each prefix of the list the player has picked."""
    places = places_in(ranking)
    now = [0] * len(ranking)
    found = [now]
    for turn, kind in picks:
        if turn == player:
            place = places[kind]
            now = now[:place] + [many + 1 for many in now[place:]]
        found.append(now)
    return found


def left_items(counts, picks):
    """Returns the counts of what is left."""
    left = list(counts)
    found = [tuple(left)]
    for _, kind in picks:
        left[kind] -= 1
        found.append(tuple(left))
    return found


def caps_of_rests(counts, ranking, sequence, picks, player):
    """Returns how many turns the player has in the rest while the items of each prefix of the list last."""
    items = prefix_items(counts, ranking)
    caps = turns_by(sequence, player, items)
    behind = [turns.ljust(len(picks)) for turns in turns_behind(sequence, items, len(picks))]
    moved = [0] * len(ranking)
    places = places_in(ranking)
    found = [caps]
    for turn, kind in picks:
        gone = 1 if turn == player else 0
        caps = [many - gone for many in caps]
        # As long as only items of a prefix are picked, they last up to the same turn of the sequence. Each pick
        # outside of the prefix lets them last for one turn more.
        for place in range(places[kind]):
            if behind[place][moved[place]] == player:
                caps[place] += 1
            moved[place] += 1
        found.append(caps)
    return found


def plain_rests(counts, ranking, other_ranking, sequence, picks, player):
    """Returns the items of each prefix of the list in the best bundle against a plain opponent."""
    caps = caps_of_rests(counts, other_ranking, sequence, picks, player)
    rests = []
    for left, limits in zip(left_items(counts, picks), caps):
        rests.append(prefix_items(greedy_bundle(left, other_ranking, limits, ranking), ranking))
    return rests


def thinking_rests(counts, lists, sequence, picks, player):
    """Returns the items of each prefix of the player's list in the end of the game."""
    left = left_items(counts, picks)[-1]
    ranking = lists[PLAYERS.index(player)]
    ending = Ending(left, lists, sequence, len(picks))
    rests = [prefix_items(ending.bundles[player], ranking)]
    for _, kind in reversed(picks):
        ending.lead_back(kind)
        rests.append(prefix_items(ending.bundles[player], ranking))
    return rests[::-1]
