"""Best play of two thinking players, led back pick by pick."""

from itertools import accumulate

from turnpicks.blocks import Turns, backwards, times_by
from turnpicks.checks import PLAYERS
from turnpicks.game import Game
from turnpicks.prefixes import places_in, prefix_items
from turnpicks.thinking import turned_lists
from turnpicks.turns import rest_of


class Ending:
    """The end of a game from some pick on, read backwards, which makes it a plain game with the turned lists.

    `ends[kind]` is the number, read backwards, of the pick that takes the last item of the kind; 0 if there is none.
    """

    def __init__(self, left, lists, sequence, passed):
        one, other = turned_lists(lists)
        self.lists = {"A": one, "B": other}
        self.places = {"A": places_in(one), "B": places_in(other)}
        self.picks = sum(left)
        self.turns = Turns(backwards(sequence))
        game = Game(left, (one, other))
        game.play(backwards(rest_of(sequence, passed)))
        self.bundles = game.bundles
        self.ends = [0] * len(left)
        for player in PLAYERS:
            self.set_ends(player)

    def set_ends(self, player):
        """Makes the kinds of the player's bundle end no earlier than with the player's last pick of them."""
        ranking = self.lists[player]
        bundle = self.bundles[player]
        held = [kind for kind in ranking if bundle[kind] > 0]
        numbers = times_by(self.turns.blocks, player, prefix_items(bundle, held))
        for kind, number in zip(held, numbers):
            self.ends[kind] = max(self.ends[kind], number)

    def lead_back(self, added):
        """Goes one pick back in the game, to where an item of this kind was left that was picked then."""
        # Read backwards, one item more changes nothing until its kind has run out. From then on, the first player
        # who has the kind ahead of what would be picked takes the item instead. That leaves one item more of
        # the other kind, and so on, up to the pick that is new. The ends that are moved here lie ahead of all
        # picks that are looked at behind them, so the latest ends of before serve the whole way.
        self.picks += 1
        latest = {player: list(accumulate([self.ends[kind] for kind in self.lists[player]], max)) for player in PLAYERS}
        kind = added
        player, number = self.next_taker(latest, kind)
        while number < self.picks:
            place = self.places[player][kind]
            while latest[player][place] < number:
                place += 1
            instead = self.lists[player][place]
            self.take(player, kind, number)
            self.bundles[player][instead] -= 1
            kind = instead
            player, number = self.next_taker(latest, kind)
        self.take(player, kind, number)

    def take(self, player, kind, number):
        """Gives the last item of the kind to the player, with the pick of this number."""
        self.bundles[player][kind] += 1
        self.ends[kind] = number

    def next_taker(self, latest, kind):
        """Returns who is the first to pick the kind if one item more of it is left, and with which pick."""
        # Each player waits until the kind had run out, and all kinds ahead of it in the list as well.
        waits = [latest[player][self.places[player][kind]] for player in PLAYERS]
        first = 0 if waits[0] <= waits[1] else 1
        number = self.turns.first_behind(PLAYERS[first], waits[first])
        if number <= waits[1 - first] + 1:
            return PLAYERS[first], number
        return PLAYERS[1 - first], waits[1 - first] + 1
