"""Few waves that nobody knows: which moments tell signals with at most so many waves."""

from wavespots.elimination import kernel, whole_table
from wavespots.errors import InvalidValues
from wavespots.lots import check_few_lots, check_full_lot
from wavespots.numbers import check_index, check_many, check_size
from wavespots.settling import check_values, signal_of, signal_with, unsettled_lot
from wavespots.wholes import difference_of, scaled, times_root, whole_row


def check_told(size, moments, many):
    """Refuse wrong arguments of tells_few and clash, and too many lots of twice as many waves."""
    check_size(size)
    check_full_lot(size, moments)
    check_many(size, many)
    check_few_lots(size, min(2 * many, size))


def tells_few(size, moments, many):
    """Whether the moments tell signals with at most so many waves."""
    check_told(size, moments, many)
    return unsettled_lot(size, moments, min(2 * many, size)) is None


def clash(size, moments, many):
    """Two unlike signals with at most so many waves each and the same values at the moments; None."""
    check_told(size, moments, many)
    lot = unsettled_lot(size, moments, min(2 * many, size))
    if lot is None:
        return None
    row = kernel(size, whole_table(size, moments, lot), len(lot))[0]
    # this row makes a signal that is nought at the moments: one signal less the other one
    one = signal_of(size, lot[:many], row[:many])
    other = signal_of(size, lot[many:], [scaled(whole, -1) for whole in row[many:]])
    return one, other


def taken_out(size, row, step):
    """The values, one fewer, that are left one behind the other when this wave is taken out."""
    return [difference_of(following, times_root(size, value, step)) for value, following in zip(row, row[1:])]


def waves_behind(size, row, low, most):
    """A lot of at most so many waves, from low on, that leave noughts when they are taken out; None.

    Just the values, one behind the other, of signals with waves in the lot alone leave noughts.
    """
    if not any([any(whole) for whole in row]):
        return ()
    if most == 0:
        return None
    for step in range(low, size):
        rest = waves_behind(size, taken_out(size, row, step), step + 1, most - 1)
        if rest is not None:
            return (step, *rest)
    return None


def few_back(size, start, values):
    """The signal of at most half as many waves as values that has these from the start on; None."""
    check_size(size)
    check_index(start, size)
    if type(values) is not tuple or len(values) % 2 != 0 or not 2 <= len(values) <= size:
        raise InvalidValues(None)
    check_values(size, values)
    row, _ = whole_row(values)
    waves = waves_behind(size, row, 0, len(values) // 2)
    if waves is None:
        return None
    told = {(start + at) % size: value for at, value in enumerate(values)}
    moments = tuple(sorted(told))
    return signal_with(size, moments, waves, tuple([told[moment] for moment in moments]))
