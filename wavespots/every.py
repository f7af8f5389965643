"""Every lot: which moments settle each lot of as many waves."""

from wavespots.lots import check_few_lots, check_lot, rests
from wavespots.numbers import check_size, divisors_of, prime_of
from wavespots.settling import unsettled_lot


def is_even(size, moments):
    """Whether the moments fall evenly by each divisor of the size."""
    check_size(size)
    check_lot(size, moments)
    rows = [rests(size, moments, divisor) for divisor in divisors_of(size)]
    return all([max(counts) - min(counts) <= 1 for counts in rows])


def check_every(size, moments):
    """Refuse wrong arguments, and too many lots of as many waves."""
    check_size(size)
    check_lot(size, moments)
    if prime_of(size) is None:
        check_few_lots(size, len(moments))


def broken_lot(size, moments):
    """A lot of as many waves that the moments do not settle; None."""
    check_every(size, moments)
    if moments == ():
        return None
    # for powers of primes evenness is enough, so that no lots are gone through
    if prime_of(size) is not None and is_even(size, moments):
        return None
    return unsettled_lot(size, moments, len(moments))


def settles_all(size, moments):
    """Whether the moments settle each lot of as many waves."""
    return broken_lot(size, moments) is None
