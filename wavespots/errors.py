"""The errors of Wavespots, each kind of failure with a class of its own."""


class WaveError(ValueError):
    """What all errors of this package stand under."""


class InvalidSize(WaveError):
    """No whole number from 2 to 12."""

    def __init__(self, given):
        self.given = given


class InvalidNumber(WaveError):
    """No number of the size."""

    def __init__(self, given):
        self.given = given


class InvalidIndex(WaveError):
    """No index that is let."""

    def __init__(self, given):
        self.given = given


class InvalidLot(WaveError):
    """No lot of the size, or () where it is not let."""

    def __init__(self, given):
        self.given = given


class InvalidCount(WaveError):
    """No count that is let."""

    def __init__(self, given):
        self.given = given


class TooMany(WaveError):
    """More lots than are gone through."""

    def __init__(self, given):
        self.given = given


class InvalidTurns(WaveError):
    """No row of as many fractions as the size."""

    def __init__(self, index):
        self.index = index


class InvalidSignal(WaveError):
    """No row of as many numbers as the size."""

    def __init__(self, index):
        self.index = index


class InvalidValues(WaveError):
    """No row of as many numbers as it takes."""

    def __init__(self, index):
        self.index = index


class NoDivisor(WaveError):
    """Nothing is divided by nought."""
