"""Sequences of turns: who picks how often, and when."""

from turnpicks.blocks import backwards, first_parting, steps_in, times_by, turns_by
from turnpicks.checks import MOST_BLOCKS, check_number, check_player, check_sequence
from turnpicks.errors import InvalidNumber, TooLarge

OTHER = {"A": "B", "B": "A"}


def length(sequence):
    """Returns the number of picks."""
    check_sequence(sequence)
    return steps_in(sequence)


def turns_among(sequence, player, picks):
    """Returns the number of turns that the player has among the first picks."""
    check_sequence(sequence)
    check_player(player)
    check_number(picks, "picks", 0)
    return turns_by(sequence, player, [picks])[0]


def pick_time(sequence, player, number):
    """Returns the number of the pick that is the player's turn with this number, or None."""
    check_sequence(sequence)
    check_player(player)
    check_number(number, "number", 1)
    return times_by(sequence, player, [number])[0]


def reversed_sequence(sequence):
    """Returns the sequence from its end to its start."""
    check_sequence(sequence)
    return backwards(sequence)


def exchanged_sequence(sequence):
    """Returns the sequence with each turn given to the other player."""
    check_sequence(sequence)
    return [(exchanged_turns(turns), times) for turns, times in sequence]


def exchanged_turns(turns):
    """Returns the string of a block with the letters A and B exchanged."""
    return "".join([OTHER[letter] for letter in turns])


def rest_of(sequence, picks):
    """Returns a sequence of the turns that remain after the first picks."""
    check_sequence(sequence)
    check_number(picks, "picks", 0)
    if picks > steps_in(sequence):
        raise InvalidNumber("picks")
    # A cut inside a block makes two of it, and the result must still be a sequence.
    if len(sequence) == MOST_BLOCKS:
        raise TooLarge(MOST_BLOCKS - 1)
    rest = []
    ahead = picks
    for block in sequence:
        taken = min(ahead, steps_in([block]))
        rest.extend(rest_of_block(block, taken))
        ahead -= taken
    return rest


def rest_of_block(block, picks):
    """Returns the blocks, at most two, that remain of a block after its first picks."""
    turns, times = block
    whole, part = divmod(picks, len(turns))
    if part == 0:
        return [(turns, times - whole)] if whole < times else []
    rest = [(turns[part:], 1)]
    if whole + 1 < times:
        rest.append((turns, times - whole - 1))
    return rest


def first_difference(one, other):
    """Returns the number of the first pick that two sequences do not have in common, or None."""
    check_sequence(one)
    check_sequence(other)
    return first_parting(one, other)
