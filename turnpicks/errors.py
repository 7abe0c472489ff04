"""The errors of the package: each one keeps the value that tells what is wrong."""


class PickError(ValueError):
    """What all errors of the package have in common."""


class InvalidCounts(PickError):
    """The counts are not a tuple of at most 60 integers >= 0."""

    def __init__(self, counts):
        self.counts = counts


class InvalidLists(PickError):
    """The list at the index is not valid; with -1, the lists are no tuple of two."""

    def __init__(self, index):
        self.index = index


class InvalidList(PickError):
    """The list does not contain every kind once."""

    def __init__(self, ranking):
        self.ranking = ranking


class InvalidSequence(PickError):
    """The block at the index is not valid; with -1, the whole sequence is not."""

    def __init__(self, index):
        self.index = index


class InvalidPlayer(PickError):
    """The player is neither A nor B."""

    def __init__(self, player):
        self.player = player


class InvalidKind(PickError):
    """The kind cannot stand here."""

    def __init__(self, kind):
        self.kind = kind


class InvalidBundle(PickError):
    """The bundle is not valid; the index tells why."""

    def __init__(self, index):
        self.index = index


class InvalidSharing(PickError):
    """The bundle at the index is not valid; with -1, the whole sharing is not."""

    def __init__(self, index):
        self.index = index


class InvalidCourse(PickError):
    """The row at the index is wrong; with -1, the course as a whole is not valid."""

    def __init__(self, index):
        self.index = index


class InvalidOrder(PickError):
    """The run at the index is not valid; with -1, the whole order is not."""

    def __init__(self, index):
        self.index = index


class InvalidPicks(PickError):
    """The pick at the index is not valid; with -1, the picks as a whole are not."""

    def __init__(self, index):
        self.index = index


class InvalidNumber(PickError):
    """The argument with this name is not an integer in its range."""

    def __init__(self, name):
        self.name = name


class InvalidOpponent(PickError):
    """The opponent is not one of the three ways to play."""

    def __init__(self, opponent):
        self.opponent = opponent


class InvalidValues(PickError):
    """The entry at the index is not valid; with -1, the values as a whole are not."""

    def __init__(self, index):
        self.index = index


class Mismatch(PickError):
    """The argument with this name does not go with the other ones."""

    def __init__(self, name):
        self.name = name


class Misfit(PickError):
    """What the index stands for does not fit."""

    def __init__(self, index):
        self.index = index


class CannotHave(PickError):
    """The bundle holds more items of this prefix than the player can have."""

    def __init__(self, prefix):
        self.prefix = prefix


class TooLarge(PickError):
    """An argument goes beyond this limit."""

    def __init__(self, limit):
        self.limit = limit
