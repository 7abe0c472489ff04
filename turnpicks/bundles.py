"""What a player can have against an opponent who picks plainly."""

from itertools import accumulate

from turnpicks.blocks import times_by
from turnpicks.checks import PLAYERS, bundle_fault, check_bundle, check_counts, check_enough_items, check_kind
from turnpicks.checks import check_lists, check_player, check_sequence, check_side, check_values, integers_fault
from turnpicks.checks import is_integer, is_kind
from turnpicks.errors import CannotHave, InvalidOrder, Misfit
from turnpicks.prefixes import prefix_items, prefix_turns


def caps(counts, ranking, sequence, player):
    """Returns the caps of all prefixes of the opponent's list."""
    check_side(counts, ranking, sequence, player)
    check_enough_items(counts, sequence)
    return prefix_turns(counts, ranking, sequence, player)


def can_have(counts, ranking, sequence, player, bundle):
    """Returns None if the player can have the bundle, otherwise the first prefix of which it has too much."""
    limits = caps(counts, ranking, sequence, player)
    check_bundle(bundle, counts, last_of(limits))
    return first_over(spare(ranking, limits, bundle))


def best_bundle(counts, lists, sequence, player):
    """Returns the best bundle, for the player's own list, that the player can have."""
    check_counts(counts)
    check_lists(lists, len(counts))
    check_sequence(sequence)
    check_player(player)
    check_enough_items(counts, sequence)
    own = PLAYERS.index(player)
    limits = prefix_turns(counts, lists[1 - own], sequence, player)
    return greedy_bundle(counts, lists[1 - own], limits, lists[own])


def pick_order(counts, ranking, sequence, player, bundle):
    """Returns an order of picks with which the player gets the bundle."""
    prefix = can_have(counts, ranking, sequence, player, bundle)
    if prefix is not None:
        raise CannotHave(prefix)
    # The opponent goes down the list, so what stands first in it has to be picked first.
    return [(kind, bundle[kind]) for kind in ranking if bundle[kind] > 0]


def check_order(counts, ranking, sequence, player, order):
    """Raises InvalidOrder if the player cannot make the picks of the order."""
    limits = caps(counts, ranking, sequence, player)
    check_runs(order, len(counts), last_of(limits))
    index = first_missed(counts, ranking, sequence, player, order)
    if index is not None:
        raise InvalidOrder(index)


def exchanges(counts, ranking, sequence, player, bundle, kind):
    """Returns the kinds of which the player may give up an item for one more of this kind."""
    limits = caps(counts, ranking, sequence, player)
    check_bundle(bundle, counts, last_of(limits))
    check_kind(kind, len(counts))
    room = spare(ranking, limits, bundle)
    prefix = first_over(room)
    if prefix is not None:
        raise CannotHave(prefix)
    if bundle[kind] == counts[kind]:
        return []
    # An item that stands behind the kind can give way only if each prefix between has room for one more.
    place = ranking.index(kind)
    while room[place] > 0:
        place += 1
    return sorted([other for other in ranking[:place + 1] if other != kind and bundle[other] > 0])


def best_value(counts, ranking, sequence, player, values):
    """Returns the greatest worth, a bundle that has it, and prices that show that no other has more."""
    limits = caps(counts, ranking, sequence, player)
    check_values(values, len(counts))
    order = [kind for _, kind in sorted([(-value, kind) for kind, value in enumerate(values)])]
    bundle = greedy_bundle(counts, ranking, limits, order)
    return worth_of(bundle, values), bundle, prices_for(counts, ranking, limits, values, bundle)


def check_value(counts, ranking, sequence, player, values, answer):
    """Raises Misfit if the answer is not a greatest worth with a bundle and prices that show it."""
    limits = caps(counts, ranking, sequence, player)
    check_values(values, len(counts))
    if not is_answer(answer):
        raise Misfit(-1)
    worth, bundle, prices = answer
    if bundle_fault(bundle, counts, last_of(limits)) is not None:
        raise Misfit(0)
    if first_over(spare(ranking, limits, bundle)) is not None:
        raise Misfit(0)
    if worth != worth_of(bundle, values):
        raise Misfit(1)
    if not are_prices(prices, len(counts)):
        raise Misfit(2)
    if worth != bound_of(counts, ranking, limits, values, prices):
        raise Misfit(3)


def last_of(limits):
    """Returns the number of all turns of the player: the cap of the prefix that has all items."""
    return limits[-1] if len(limits) > 0 else 0


def spare(ranking, limits, bundle):
    """Returns for each prefix how many items the bundle holds less than the cap."""
    return [limit - held for limit, held in zip(limits, prefix_items(bundle, ranking))]


def first_over(room):
    """Returns the number of the first prefix that has less than no room, or None."""
    for place, many in enumerate(room):
        if many < 0:
            return place + 1
    return None


def greedy_bundle(counts, ranking, limits, order):
    """Returns the bundle with as many items of each kind as the caps allow, one kind of the order after the other."""
    places = {kind: place for place, kind in enumerate(ranking, start=1)}
    # The turns between the caps of two prefixes come too late for the kinds of the first one. Each kind
    # gets the latest turns that are early enough for it, so that the others lose as little as can be.
    free = [0] + [limit - before for limit, before in zip(limits, [0] + limits)]
    # A place without free turns leads down to a lower one. The way is made shorter each time it is gone.
    lower = list(range(len(free)))
    bundle = [0] * len(counts)
    for kind in order:
        wanted = counts[kind]
        place = places[kind]
        while wanted > 0 and place > 0:
            if lower[place] < place:
                lower[place] = lower[lower[place]]
                place = lower[place]
            elif free[place] > wanted:
                free[place] -= wanted
                wanted = 0
            else:
                wanted -= free[place]
                lower[place] = place - 1
        bundle[kind] = counts[kind] - wanted
    return tuple(bundle)


def check_runs(order, kinds, many):
    """Raises InvalidOrder if this is not an order with so many picks of items of so many kinds."""
    if not isinstance(order, list):
        raise InvalidOrder(-1)
    for index, run in enumerate(order):
        if not is_run(run, kinds):
            raise InvalidOrder(index)
    if sum([number for _, number in order]) != many:
        raise InvalidOrder(len(order))


def is_run(value, kinds):
    """Returns whether the value is a run of picks of one of so many kinds."""
    if not isinstance(value, tuple) or len(value) != 2:
        return False
    kind, number = value
    return is_kind(kind, kinds) and is_integer(number) and number >= 1


def first_missed(counts, ranking, sequence, player, order):
    """Returns the index of the first run with a pick that is not possible, or None."""
    numbers = list(accumulate([number for _, number in order]))
    times = times_by(sequence, player, numbers)
    left = [counts[kind] for kind in ranking]
    first = 0
    passed = 0
    for index, (kind, number) in enumerate(order):
        place = ranking.index(kind)
        others = times[index] - numbers[index] - passed
        passed += others
        # The opponent comes to this kind only behind all that stands ahead of it. What is left of it only
        # falls, so if the last pick of the run is possible, all others are.
        if left[place] < number + max(0, others - sum(left[:place])):
            return index
        left[place] -= number
        while others > 0:
            many = min(others, left[first])
            left[first] -= many
            others -= many
            if others > 0:
                first += 1
    return None


def worth_of(bundle, values):
    """Returns the sum of the values of the items of a bundle."""
    return sum([many * value for many, value in zip(bundle, values)])


def prices_for(counts, ranking, limits, values, bundle):
    """Returns prices whose bound is the worth of the bundle, which is a best one."""
    least = min(values, default=0)
    # A kind must not cost less than any kind behind the same full prefix that the bundle lacks items of:
    # were it worth more to exchange, the bundle would not be a best one.
    lacking = [values[kind] if bundle[kind] < counts[kind] else least for kind in ranking]
    levels = list(accumulate(lacking[::-1], max))[::-1] + [0]
    prices = []
    level = levels[0]
    for place, many in enumerate(spare(ranking, limits, bundle)):
        behind = levels[place + 1] if many == 0 else level
        prices.append(level - behind)
        level = behind
    return prices


def is_answer(value):
    """Returns whether the value is a tuple of an integer, a tuple and a list."""
    if not isinstance(value, tuple) or len(value) != 3:
        return False
    worth, bundle, prices = value
    return is_integer(worth) and isinstance(bundle, tuple) and isinstance(prices, list)


def are_prices(values, kinds):
    """Returns whether the values, a list, are prices for so many kinds."""
    if integers_fault(values, kinds) is not None:
        return False
    return all([value >= 0 for value in values[:-1]])


def bound_of(counts, ranking, limits, values, prices):
    """Returns what the prices show that no bundle is worth more than."""
    bound = sum([price * limit for price, limit in zip(prices, limits)])
    costs = list(accumulate(prices[::-1]))[::-1]
    for kind, cost in zip(ranking, costs):
        bound += max(0, values[kind] - cost) * counts[kind]
    return bound
