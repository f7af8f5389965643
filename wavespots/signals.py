"""Signals: a number for each moment, and the parts of the waves in them."""

from wavespots.errors import InvalidSignal
from wavespots.numbers import check_index, check_size, first_no_number, is_row, nought, root, times
from wavespots.wholes import conjugated, number_of, product_of, sum_of_products, sums_of_turns, whole_row


def is_signal(size, value):
    """Whether a value, whatever it is, is a signal of the size."""
    check_size(size)
    return is_row(size, value, size)


def check_signal(size, signal):
    """Refuse what is no signal of the size."""
    if type(signal) is not tuple or len(signal) != size:
        raise InvalidSignal(None)
    index = first_no_number(size, signal)
    if index is not None:
        raise InvalidSignal(index)


def parts_of(size, signal):
    """The parts of a signal, for each wave one."""
    check_size(size)
    check_signal(size, signal)
    row, below = whole_row(signal)
    return tuple([number_of(whole, below * size) for whole in sums_of_turns(size, row, -1)])


def signal_from(size, parts):
    """The signal with these parts."""
    check_size(size)
    check_signal(size, parts)
    row, below = whole_row(parts)
    return tuple([number_of(whole, below) for whole in sums_of_turns(size, row, 1)])


def wave(size, step):
    """The wave of this index."""
    check_size(size)
    check_index(step, size)
    return tuple([root(size, step * moment % size) for moment in range(size)])


def moved(size, signal, step):
    """The signal with each value so many moments later, going round."""
    check_size(size)
    check_signal(size, signal)
    check_index(step, size)
    return tuple([signal[(moment - step) % size] for moment in range(size)])


def turned(size, signal, step):
    """The signal with each value times that of the wave of this step."""
    check_size(size)
    check_signal(size, signal)
    check_index(step, size)
    return tuple([times(size, value, by) for value, by in zip(signal, wave(size, step))])


def round_product(size, signal, other):
    """The signal with the sum, over all moments i, of f(i) g(j - i) at each moment j."""
    check_size(size)
    check_signal(size, signal)
    check_signal(size, other)
    row, below = whole_row(signal)
    others, under = whole_row(other)
    # the parts of the round product are products: far fewer of them than f(i) g(j - i)
    pairs = list(zip(sums_of_turns(size, row, -1), sums_of_turns(size, others, -1)))
    products = [product_of(size, whole, by) for whole, by in pairs]
    return tuple([number_of(whole, below * under * size) for whole in sums_of_turns(size, products, 1)])


def energy(size, signal):
    """The sum of all values, each times itself mirrored."""
    check_size(size)
    check_signal(size, signal)
    row, below = whole_row(signal)
    mirrored_row = [conjugated(size, whole, size - 1) for whole in row]
    return number_of(sum_of_products(size, row, mirrored_row), below * below)


def places_of(size, signal):
    """The lot of the moments at which a signal is not nought."""
    check_size(size)
    check_signal(size, signal)
    nil = nought(size)
    return tuple([moment for moment in range(size) if signal[moment] != nil])


def waves_of(size, signal):
    """The lot of the waves whose parts of a signal are not nought."""
    return places_of(size, parts_of(size, signal))


def spread(size, lot, row):
    """A row of numbers, one for each index, with those of the row at the lot and else noughts."""
    found = [nought(size)] * size
    for index, number in zip(lot, row):
        found[index] = number
    return tuple(found)
