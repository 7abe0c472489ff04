"""Games in which both players think ahead to the end: they are played from the last pick to the first one."""

from turnpicks.blocks import backwards
from turnpicks.checks import PLAYERS, check_all_items, check_counts, check_lists, check_sequence
from turnpicks.game import Game


def end_of(counts, lists, sequence):
    """Returns the bundles of A and B in which best play ends."""
    check_whole_game(counts, lists, sequence)
    game = Game(counts, turned_lists(lists))
    game.play(backwards(sequence))
    return game.shared()


def end_course(counts, lists, sequence):
    """Returns a course of best play."""
    check_whole_game(counts, lists, sequence)
    return end_rows(counts, lists, sequence)


def best_first_picks(counts, lists, sequence):
    """Returns the kinds that the player who has the first pick can pick so that the end stays the same."""
    check_whole_game(counts, lists, sequence)
    if len(sequence) == 0:
        return []
    turns, _ = sequence[0]
    own = PLAYERS.index(turns[0])
    kinds = keeping_kinds(end_rows(counts, lists, sequence), turns[0], lists[1 - own])
    return [kind for kind in lists[own] if kind in kinds]


def is_end(counts, lists, sequence, bundles):
    """Returns whether the bundles, which may be any object, are equal to those in which best play ends."""
    return bool(end_of(counts, lists, sequence) == bundles)


def turned(counts, lists, sequence):
    """Returns the lists and the sequence of the game whose plain picks are those of best play, read backwards."""
    check_whole_game(counts, lists, sequence)
    return turned_lists(lists), backwards(sequence)


def check_whole_game(counts, lists, sequence):
    """Raises what a function with just these arguments raises if all items are to be picked."""
    check_counts(counts)
    check_lists(lists, len(counts))
    check_sequence(sequence)
    check_all_items(counts, sequence)


def turned_lists(lists):
    """Returns the lists of the turned game: each player's list is the reversed one of the other."""
    one, other = lists
    return other[::-1], one[::-1]


def end_rows(counts, lists, sequence):
    """Returns the rows of the turned game's plain course, read backwards."""
    rows = Game(counts, turned_lists(lists)).play(backwards(sequence))
    return [(turns[::-1], kinds[::-1], times) for turns, kinds, times in reversed(rows)]


def keeping_kinds(rows, player, rival):
    """Returns the kinds that the player can pick first, from the rows of best play; `rival` is the other's list."""
    # Read backwards, a kind runs out with the pick that comes first of all its picks in these rows. With one
    # item of it less, whoever makes that pick would take the next best kind instead, which then runs out
    # early as well, and so on, down to the pick that comes first of all and now is not made. The end stays
    # the same if and only if all of these picks are the player's. Read backwards, the best kind for the
    # player is the one that the rival ranks lowest: so the chain leads from each kind of the player to the
    # one found before, unless the rival holds a kind between that would be better.
    places = {kind: place for place, kind in enumerate(rival)}
    seen = {}
    found = []
    for turns, kinds, _ in rows:
        for turn, kind in zip(turns, kinds):
            if kind in seen:
                continue
            seen[kind] = True
            if turn == player:
                found.append(kind)
            elif places[kind] > places[found[-1]]:
                return found
    return found
