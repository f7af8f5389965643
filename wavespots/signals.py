"""Signals: a number for each moment, and the parts of the waves in them."""

from wavespots.errors import InvalidSignal
from wavespots.numbers import check_index, check_size, first_no_number, nought, root
from wavespots.wholes import number_of, sums_of_turns, whole_row


def check_signal(size, signal):
    """Refuse what is no signal of the size."""
    if type(signal) is not tuple or len(signal) != size:
        raise InvalidSignal(None)
    index = first_no_number(size, signal)
    if index is not None:
        raise InvalidSignal(index)


def parts_of(size, signal):
    """The parts of a signal, for each wave one."""
    check_size(size)
    check_signal(size, signal)
    row, below = whole_row(signal)
    return tuple([number_of(whole, below * size) for whole in sums_of_turns(size, row, -1)])


def signal_from(size, parts):
    """The signal with these parts."""
    check_size(size)
    check_signal(size, parts)
    row, below = whole_row(parts)
    return tuple([number_of(whole, below) for whole in sums_of_turns(size, row, 1)])


def wave(size, step):
    """The wave of this index."""
    check_size(size)
    check_index(step, size)
    return tuple([root(size, step * moment % size) for moment in range(size)])


def places_of(size, signal):
    """The lot of the moments at which a signal is not nought."""
    check_size(size)
    check_signal(size, signal)
    nil = nought(size)
    return tuple([moment for moment in range(size) if signal[moment] != nil])


def waves_of(size, signal):
    """The lot of the waves whose parts of a signal are not nought."""
    return places_of(size, parts_of(size, signal))


def spread(size, lot, row):
    """A row of numbers, one for each index, with those of the row at the lot and else noughts."""
    found = [nought(size)] * size
    for index, number in zip(lot, row):
        found[index] = number
    return tuple(found)
