"""Plain games under way, in which repeated turns are played as wholes."""


class Game:
    """What is left of the items, what each player has, and how far in the own list nothing is left."""

    def __init__(self, counts, lists):
        self.left = list(counts)
        self.lists = {"A": lists[0], "B": lists[1]}
        self.places = {"A": 0, "B": 0}
        self.bundles = {"A": [0] * len(counts), "B": [0] * len(counts)}
        self.even = {}

    def play(self, sequence):
        """Plays a sequence that is not longer than the items last, and returns the rows of its picks."""
        rows = []
        for turns, times in sequence:
            ahead = times
            while ahead > 0:
                row = self.next_row(turns, ahead)
                rows.append(row)
                ahead -= row[2]
        return rows

    def next_row(self, turns, most):
        """Plays the next rounds of the turns, at most so many, that have the same picks; returns their row."""
        one = self.best("A")
        other = self.best("B")
        rounds = self.rounds_of(turns, one, other, most)
        # A round in which a player changes the kind uses the old kind up, so this makes it a row of its
        # own. Any other round is repeated until a kind does not last for one more. Hence at most two rows
        # end early for each kind, and 200 blocks with 60 kinds make at most 320 rows.
        if rounds == 0:
            return (turns, tuple([self.pick(player) for player in turns]), 1)
        own = turns.count("A")
        self.take("A", one, own * rounds)
        self.take("B", other, (len(turns) - own) * rounds)
        return (turns, self.even_kinds(turns, one, other), rounds)

    def even_kinds(self, turns, one, other):
        """Returns the kinds of a round in which A picks the one kind and B the other."""
        # Rows with the same turns are frequent, and a known tuple is found faster than a new one is made.
        if (turns, one, other) not in self.even:
            self.even[turns, one, other] = tuple([one if player == "A" else other for player in turns])
        return self.even[turns, one, other]

    def rounds_of(self, turns, one, other, most):
        """Returns for how many rounds, at most so many, A can pick the one kind and B the other."""
        own = len(turns) if one == other else turns.count("A")
        rounds = most
        if own > 0:
            rounds = min(rounds, self.left[one] // own)
        if own < len(turns):
            rounds = min(rounds, self.left[other] // (len(turns) - own))
        return rounds

    def best(self, player):
        """Returns the first kind of the player's list of which items are left; there is one."""
        ranking = self.lists[player]
        place = self.places[player]
        while self.left[ranking[place]] == 0:
            place += 1
        self.places[player] = place
        return ranking[place]

    def pick(self, player):
        """Takes one item for the player, who picks plainly, and returns its kind."""
        kind = self.best(player)
        self.take(player, kind, 1)
        return kind

    def take(self, player, kind, many):
        """Moves so many items of a kind from what is left to the player's bundle."""
        self.left[kind] -= many
        self.bundles[player][kind] += many

    def shared(self):
        """Returns the bundles of A and B."""
        return tuple(self.bundles["A"]), tuple(self.bundles["B"])
