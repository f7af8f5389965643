"""Lots: ascending tuples of moments or of waves."""

from itertools import combinations
from math import comb, gcd

from wavespots.errors import InvalidIndex, InvalidLot, TooMany
from wavespots.numbers import check_divisor, check_index, check_size, is_whole_from

MOST_LOTS = 300


def is_lot(size, value):
    """Whether a value, whatever it is, is a lot of the size."""
    check_size(size)
    if type(value) is not tuple:
        return False
    if not all([is_whole_from(index, 0, size - 1) for index in value]):
        return False
    return all([index < following for index, following in zip(value, value[1:])])


def check_lot(size, lot):
    """Refuse what is no lot of the size; () is one."""
    if not is_lot(size, lot):
        raise InvalidLot(lot)


def check_full_lot(size, lot):
    """Refuse what is no lot of the size, and ()."""
    if not is_lot(size, lot) or lot == ():
        raise InvalidLot(lot)


def beside(size, lot):
    """The lot of all indexes that are not in the lot."""
    check_size(size)
    check_lot(size, lot)
    return tuple([index for index in range(size) if index not in lot])


def lots_with_nought(size, more):
    """The lots of the size that have 0 and so many indexes more."""
    return [(0, *rest) for rest in combinations(range(1, size), more)]


def check_few_lots(size, many):
    """Refuse to go through all lots of so many indexes if they are too many."""
    lots = comb(size, many)
    if lots > MOST_LOTS:
        raise TooMany(lots)


def lot_moved(size, lot, step):
    """The lot of each index and the step together, going round."""
    check_size(size)
    check_lot(size, lot)
    check_index(step, size)
    return tuple(sorted([(index + step) % size for index in lot]))


def lot_times(size, lot, factor):
    """The lot of each index so often, going round."""
    check_size(size)
    check_lot(size, lot)
    if not is_whole_from(factor, 1, size - 1) or gcd(factor, size) != 1:
        raise InvalidIndex(factor)
    return tuple(sorted([index * factor % size for index in lot]))


def rests(size, lot, many):
    """How many indexes of the lot leave each rest by a divisor of the size, the rest 0 first."""
    check_size(size)
    check_lot(size, lot)
    check_divisor(size, many)
    counts = [0] * many
    for index in lot:
        counts[index % many] += 1
    return tuple(counts)
