"""Settling: which moments tell apart all signals with waves in told ones alone."""

from wavespots.elimination import kernel, pivots_of, solved, whole_table
from wavespots.errors import InvalidValues
from wavespots.lots import check_lot, lots_with_nought
from wavespots.numbers import check_size, first_no_number
from wavespots.signals import signal_from, spread
from wavespots.wholes import number_of, scaled, whole_row


def check_lots(size, moments, waves):
    """Refuse a wrong size, and what are no lots."""
    check_size(size)
    check_lot(size, moments)
    check_lot(size, waves)


def rank_of(size, moments, waves):
    """The rank of the table of moments and waves."""
    check_lots(size, moments, waves)
    return len(pivots_of(size, whole_table(size, moments, waves)))


def settles(size, moments, waves):
    """Whether the moments settle the waves."""
    return rank_of(size, moments, waves) == len(waves)


def unsettled_lot(size, moments, many):
    """A lot of so many waves that the moments do not settle; None."""
    # waves that are moved are settled alike: the lots with 0 stand for all
    for lot in lots_with_nought(size, many - 1):
        if not settles(size, moments, lot):
            return lot
    return None


def signal_of(size, waves, row):
    """The signal with the wholes of a row as its parts at the waves, and no others."""
    return signal_from(size, spread(size, waves, [number_of(whole, 1) for whole in row]))


def unseen(size, moments, waves):
    """A signal with waves in these alone, not nought, that is nought at all the moments; None."""
    check_lots(size, moments, waves)
    rows = kernel(size, whole_table(size, moments, waves), len(waves))
    if not rows:
        return None
    return signal_of(size, waves, rows[0])


def check_values(size, values):
    """Refuse values of which one is no number of the size."""
    index = first_no_number(size, values)
    if index is not None:
        raise InvalidValues(index)


def signal_with(size, moments, waves, values):
    """A signal with waves in these alone and these values at the moments; None."""
    check_lots(size, moments, waves)
    if type(values) is not tuple or len(values) != len(moments):
        raise InvalidValues(None)
    check_values(size, values)
    told, below = whole_row(values)
    rows = []
    for row, value in zip(whole_table(size, moments, waves), told):
        rows.append([scaled(whole, below) for whole in row] + [value])
    parts = {}
    for at, row in solved(size, rows):
        if at == len(waves):
            return None
        parts[waves[at]] = number_of(row[-1], row[at][0])
    return signal_from(size, spread(size, list(parts), list(parts.values())))
