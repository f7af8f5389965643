"""Lots: ascending tuples of moments or of waves."""

from itertools import combinations

from wavespots.errors import InvalidLot
from wavespots.numbers import check_size, is_whole_from


def is_lot(size, value):
    """Whether a value, whatever it is, is a lot of the size."""
    check_size(size)
    if type(value) is not tuple:
        return False
    if not all([is_whole_from(index, 0, size - 1) for index in value]):
        return False
    return all([index < following for index, following in zip(value, value[1:])])


def check_lot(size, lot):
    """Refuse what is no lot of the size; () is one."""
    if not is_lot(size, lot):
        raise InvalidLot(lot)


def check_full_lot(size, lot):
    """Refuse what is no lot of the size, and ()."""
    if not is_lot(size, lot) or lot == ():
        raise InvalidLot(lot)


def beside(size, lot):
    """The lot of all indexes that are not in the lot."""
    check_size(size)
    check_lot(size, lot)
    return tuple([index for index in range(size) if index not in lot])


def lots_with_nought(size, more):
    """The lots of the size that have 0 and so many indexes more."""
    return [(0, *rest) for rest in combinations(range(1, size), more)]
