"""The places and prefixes of a list: how many items these have, and how many turns a player has while they last."""

from itertools import accumulate

from turnpicks.blocks import turns_by


def places_in(ranking):
    """Returns the place of each kind in a list, from 0."""
    places = [0] * len(ranking)
    for place, kind in enumerate(ranking):
        places[kind] = place
    return places


def prefix_items(bundle, ranking):
    """Returns the numbers of items that a bundle, or counts, has in the prefixes of a list."""
    return list(accumulate([bundle[kind] for kind in ranking]))


def prefix_turns(counts, ranking, sequence, player):
    """Returns, for each prefix, how many of the first picks are the player's if there are as many as its items."""
    return turns_by(sequence, player, prefix_items(counts, ranking))
