"""Lists led back from the picks of a player who picks plainly."""

from turnpicks.checks import check_kind, check_number, check_ranking
from turnpicks.errors import InvalidNumber
from turnpicks.forest import FittingLists, Forest
from turnpicks.prefixes import places_in


def misfit(counts, course, player):
    """Returns the index of the first row with which no list fits the course up to this row, or None."""
    return Forest(counts, course, player).misfit


def fits(counts, course, player, ranking):
    """Returns whether the list fits the course."""
    forest = Forest(counts, course, player)
    check_ranking(ranking, len(counts))
    if forest.misfit is not None:
        return False
    places = places_in(ranking)
    return all([above is None or places[above] < places[kind] for kind, above in enumerate(forest.parents)])


def parents(counts, course, player):
    """Returns the lowest of the kinds that are shown to stand above each kind, or None."""
    return fitting_forest(counts, course, player).parents


def list_count(counts, course, player):
    """Returns the number of lists that fit."""
    return fitting_forest(counts, course, player).list_total()


def place_range(counts, course, player, kind):
    """Returns the least and the greatest place that the kind can have in a list that fits."""
    forest = Forest(counts, course, player)
    check_kind(kind, len(counts))
    forest.check()
    return len(forest.line(kind)), len(counts) - forest.subtree_sizes()[kind] + 1


def told_by(counts, course, player, kind):
    """Returns the number of lists that fit and with which the player picks this kind next."""
    forest = Forest(counts, course, player)
    check_kind(kind, len(counts))
    forest.check()
    # Nothing is shown yet of how the kinds that may come next stand to each other, so they have equal shares.
    return forest.list_total() // len(forest.coming) if kind in forest.coming else 0


def next_shares(counts, course, player):
    """Returns the kinds that the player may pick next, each with its share of the lists that fit."""
    forest = fitting_forest(counts, course, player)
    return [(kind, (1, len(forest.coming))) for kind in forest.coming]


def list_at(counts, course, player, number):
    """Returns the list with this number among those that fit, in ascending order."""
    forest = Forest(counts, course, player)
    check_number(number, "number", 0)
    forest.check()
    lists = FittingLists(forest)
    if number >= lists.many:
        raise InvalidNumber("number")
    ranking = []
    ahead = number
    while len(ranking) < len(counts):
        ranking.append(lists.kind_behind(ahead))
        ahead -= lists.go_on(ranking[-1])
    return tuple(ranking)


def list_number(counts, course, player, ranking):
    """Returns the number of a list among those that fit, in ascending order, or None if it does not fit."""
    forest = Forest(counts, course, player)
    check_ranking(ranking, len(counts))
    forest.check()
    lists = FittingLists(forest)
    number = 0
    for kind in ranking:
        if kind not in lists.ready:
            return None
        number += lists.go_on(kind)
    return number


def fitting_forest(counts, course, player):
    """Returns what the course shows, and raises what a function with just these arguments raises."""
    forest = Forest(counts, course, player)
    forest.check()
    return forest
