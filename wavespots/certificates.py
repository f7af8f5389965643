"""Certificates: of two claims that exclude one another the one that is so, and a paper for it."""

from wavespots.every import broken_lot
from wavespots.few import signal_on, sparsest_lot
from wavespots.lost import lost_signal
from wavespots.lots import beside, check_full_lot
from wavespots.numbers import check_many, check_size
from wavespots.pairs import partner_of, uneven_waves
from wavespots.settling import unseen, way_back
from wavespots.unknown import clash


def certify_settling(size, moments, waves):
    """Whether the moments settle the waves, with a way back or else an unseen signal."""
    back = way_back(size, moments, waves)
    if back is not None:
        return ("settles", size, moments, waves), back
    return ("unseen", size, moments, waves), unseen(size, moments, waves)


def certify_survival(size, waves, many):
    """Whether the waves survive so many lost moments, or else a signal that is lost with them."""
    signal = lost_signal(size, waves, many)
    if signal is None:
        return ("survives", size, waves, many), ()
    return ("lost", size, waves, many), signal


def certify_every(size, moments):
    """Whether the moments settle all, or else a lot that they do not settle, with an unseen signal."""
    lot = broken_lot(size, moments)
    if lot is None:
        return ("settles all", size, moments), ()
    return ("broken", size, moments), (lot, unseen(size, moments, lot))


def certify_few(size, moments, many):
    """Whether signals with places within the moments have so many waves, or else one with fewer."""
    check_size(size)
    check_full_lot(size, moments)
    check_many(size, many)
    lot = sparsest_lot(size, moments)
    if len(lot) >= many:
        return ("few waves", size, moments, many), ()
    return ("fewer waves", size, moments, many), unseen(size, beside(size, moments), lot)


def certify_signal(size, moments, waves):
    """Whether some signal has just these places and waves, with such a signal."""
    signal = signal_on(size, moments, waves)
    if signal is not None:
        return ("places and waves", size, moments, waves), signal
    return ("no such signal", size, moments, waves), ()


def certify_pair(size, moments, waves):
    """Whether these are an even pair, or else two waves that show that they are none."""
    pair = uneven_waves(size, moments, waves)
    if pair is None:
        return ("even pair", size, moments, waves), ()
    return ("uneven pair", size, moments, waves), pair


def certify_partner(size, moments):
    """Whether the moments have a partner, with one."""
    partner = partner_of(size, moments)
    if partner is not None:
        return ("partner", size, moments), partner
    return ("no partner", size, moments), ()


def certify_told(size, moments, many):
    """Whether the moments tell signals with so few waves, or else two signals that they do not tell apart."""
    pair = clash(size, moments, many)
    if pair is None:
        return ("told few", size, moments, many), ()
    return ("clashing", size, moments, many), pair
