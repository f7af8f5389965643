"""Lost moments: how many may be lost, whichever they are, while the others settle the waves."""

from wavespots.errors import InvalidCount
from wavespots.lots import beside, check_few_lots, check_lot, lots_with_nought
from wavespots.numbers import check_size, is_whole_from
from wavespots.settling import settles, unseen


def check_lost(size, waves, many):
    """Refuse wrong arguments, and too many lots of lost moments."""
    check_size(size)
    check_lot(size, waves)
    if not is_whole_from(many, 0, size):
        raise InvalidCount(many)
    check_few_lots(size, many)


def moments_left(size, waves, many):
    """All but so many moments, such that they do not settle the waves; None."""
    # all moments together settle whatever waves
    if many == 0:
        return None
    # moments that are moved settle alike: the lost lots with 0 stand for all
    for lost in lots_with_nought(size, many - 1):
        left = beside(size, lost)
        if not settles(size, left, waves):
            return left
    return None


def survives(size, waves, many):
    """Whether the waves survive so many lost moments."""
    check_lost(size, waves, many)
    return moments_left(size, waves, many) is None


def lost_signal(size, waves, many):
    """A signal with waves in these alone, not nought, with at most so many places; None."""
    check_lost(size, waves, many)
    left = moments_left(size, waves, many)
    if left is None:
        return None
    return unseen(size, left, waves)
