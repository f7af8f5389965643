"""Settling: which moments tell apart all signals with waves in told ones alone."""

from wavespots.elimination import kernel, pivots_of, solved, whole_table, with_units
from wavespots.errors import InvalidValues
from wavespots.lots import check_lot, lots_with_nought
from wavespots.numbers import check_size, first_no_number, nought, root
from wavespots.signals import signal_from, spread
from wavespots.wholes import number_of, sum_of_products, whole_row


def check_lots(size, moments, waves):
    """Refuse a wrong size, and what are no lots."""
    check_size(size)
    check_lot(size, moments)
    check_lot(size, waves)


def table_of(size, moments, waves):
    """The table: for each moment a row with the value there of each wave."""
    check_lots(size, moments, waves)
    return tuple([tuple([root(size, moment * step % size) for step in waves]) for moment in moments])


def first_waves(size, moments, waves):
    """The lot of the waves whose columns are no sums of multiples of those ahead."""
    check_lots(size, moments, waves)
    # just at these does some sum of multiples of the rows begin, as each row of pivots_of does at its pivot
    return tuple(sorted([waves[at] for at, _ in pivots_of(size, whole_table(size, moments, waves))]))


def first_moments(size, moments, waves):
    """The lot of the moments whose rows are no sums of multiples of those ahead."""
    check_lots(size, moments, waves)
    # the table turned over has the moments as its columns
    return first_waves(size, waves, moments)


def rank_of(size, moments, waves):
    """The rank of the table of moments and waves."""
    return len(first_waves(size, moments, waves))


def settles(size, moments, waves):
    """Whether the moments settle the waves."""
    return rank_of(size, moments, waves) == len(waves)


def unsettled_lot(size, moments, many):
    """A lot of so many waves that the moments do not settle; None."""
    # waves that are moved are settled alike: the lots with 0 stand for all
    for lot in lots_with_nought(size, many - 1):
        if not settles(size, moments, lot):
            return lot
    return None


def signal_of(size, waves, row):
    """The signal with the wholes of a row as its parts at the waves, and no others."""
    return signal_from(size, spread(size, waves, [number_of(whole, 1) for whole in row]))


def unseen(size, moments, waves):
    """A signal with waves in these alone, not nought, that is nought at all the moments; None."""
    check_lots(size, moments, waves)
    rows = kernel(size, whole_table(size, moments, waves), len(waves))
    if not rows:
        return None
    return signal_of(size, waves, rows[0])


def way_back(size, moments, waves):
    """For each wave a row of numbers, which brings its part back from the values at the moments; None."""
    check_lots(size, moments, waves)
    back = [[nought(size)] * len(moments) for _ in waves]
    for at, row in solved(size, with_units(size, whole_table(size, waves, moments))):
        # a pivot among the units: the rows of the waves are not free
        if at >= len(moments):
            return None
        for index, whole in enumerate(row[len(moments):]):
            back[index][at] = number_of(whole, row[at][0])
    return tuple([tuple(row) for row in back])


def brought_back(size, row, values):
    """The sum of a row's numbers, each times the value at its moment."""
    wholes, below = whole_row(row)
    told, under = whole_row(values)
    return number_of(sum_of_products(size, wholes, told), below * under)


def check_values(size, values):
    """Refuse values of which one is no number of the size."""
    index = first_no_number(size, values)
    if index is not None:
        raise InvalidValues(index)


def signal_with(size, moments, waves, values):
    """A signal with waves in these alone and these values at the moments; None."""
    check_lots(size, moments, waves)
    if type(values) is not tuple or len(values) != len(moments):
        raise InvalidValues(None)
    check_values(size, values)
    # at the moments each signal is like one with the first waves alone, and the first moments tell which
    columns = first_waves(size, moments, waves)
    rows = first_moments(size, moments, waves)
    told = [value for moment, value in zip(moments, values) if moment in rows]
    parts = [brought_back(size, row, told) for row in way_back(size, rows, columns)]
    signal = signal_from(size, spread(size, columns, parts))
    if not all([signal[moment] == value for moment, value in zip(moments, values)]):
        return None
    return signal
