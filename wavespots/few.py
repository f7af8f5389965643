"""How few places and waves a signal can have, and which signals have so few."""

from wavespots.elimination import kernel, whole_table
from wavespots.lots import beside, check_full_lot
from wavespots.numbers import check_divisor, check_index, check_many, check_size, divisors_of
from wavespots.settling import signal_of, unsettled_lot
from wavespots.signals import places_of, spread, wave, waves_of
from wavespots.wholes import scaled, sum_of


def coset_signal(size, divisor, start, step):
    """The wave of this step at the moments that leave the rest start by the divisor, else noughts."""
    check_size(size)
    check_divisor(size, divisor)
    check_index(start, divisor)
    check_index(step, size)
    values = wave(size, step)
    places = list(range(start, size, divisor))
    return spread(size, places, [values[moment] for moment in places])


def is_coset_signal(size, signal):
    """Whether a signal is a number, not nought, times a coset signal."""
    # just these have so few places and waves that the product is the size
    return len(places_of(size, signal)) * len(waves_of(size, signal)) == size


def least_by_line(size, many):
    """The least number of waves that the line between neighbouring divisors lets for so many places."""
    check_size(size)
    check_many(size, many)
    divisors = divisors_of(size)
    low = max([divisor for divisor in divisors if divisor <= many])
    high = min([divisor for divisor in divisors if divisor >= many])
    return -(-size * (low + high - many) // (low * high))


def sparsest_lot(size, moments):
    """A lot of as few waves as a signal, not nought, with places within the moments can have."""
    check_size(size)
    check_full_lot(size, moments)
    others = beside(size, moments)
    most = size + 1 - len(moments)
    for many in range(least_by_line(size, len(moments)), most):
        lot = unsettled_lot(size, others, many)
        if lot is not None:
            return lot
    # so many waves are more than the moments beside, which settle none of as many
    return tuple(range(most))


def fewest_waves(size, moments):
    """The least number of waves of a signal, not nought, with places within the moments."""
    return len(sparsest_lot(size, moments))


def mixture(rows, factor):
    """The first row, plus the second one times the factor, plus the third one times its square .."""
    mixed = rows[-1]
    for row in reversed(rows[:-1]):
        mixed = [sum_of(scaled(whole, factor), other) for whole, other in zip(mixed, row)]
    return mixed


def have_all(size, signals, moments, waves):
    """Whether each of the moments is a place, and each of the waves a wave, of some of the signals."""
    places = sorted({moment for signal in signals for moment in places_of(size, signal)})
    steps = sorted({step for signal in signals for step in waves_of(size, signal)})
    return places == list(moments) and steps == list(waves)


def signal_on(size, moments, waves):
    """A signal whose places are just the moments and whose waves are just the waves; None."""
    check_size(size)
    check_full_lot(size, moments)
    check_full_lot(size, waves)
    rows = kernel(size, whole_table(size, beside(size, moments), waves), len(waves))
    if not have_all(size, [signal_of(size, waves, row) for row in rows], moments, waves):
        return None
    factor = 1
    mixed = signal_of(size, waves, mixture(rows, factor))
    # each moment and each wave is lost by fewer factors than there are rows, so this ends
    while not have_all(size, [mixed], moments, waves):
        factor += 1
        mixed = signal_of(size, waves, mixture(rows, factor))
    return mixed
