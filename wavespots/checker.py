"""The checker: whether a paper shows that a claim is so.

Each claim has a form, which tells what stands behind its word and the size, and a judge, which
takes the paper, whatever it is, and the claim without its word. Judges see right claims only.
"""

from wavespots.errors import TooMany
from wavespots.every import settles_all
from wavespots.few import fewest_waves, signal_on
from wavespots.lost import survives
from wavespots.lots import beside, is_lot
from wavespots.numbers import is_row, is_size, is_whole_from, nought, root
from wavespots.pairs import are_partners, is_even_pair, is_zero_step, partner_of
from wavespots.signals import is_signal, places_of, signal_from, spread, waves_of
from wavespots.unknown import tells_few

FORMS = {
    "settles": ("lot", "lot"),
    "unseen": ("lot", "lot"),
    "survives": ("lot", "lost count"),
    "lost": ("lot", "lost count"),
    "settles all": ("lot",),
    "broken": ("lot",),
    "few waves": ("full lot", "count"),
    "fewer waves": ("full lot", "count"),
    "places and waves": ("full lot", "full lot"),
    "no such signal": ("full lot", "full lot"),
    "even pair": ("full lot", "full lot"),
    "uneven pair": ("full lot", "full lot"),
    "partner": ("full lot",),
    "no partner": ("full lot",),
    "told few": ("full lot", "count"),
    "clashing": ("full lot", "count"),
}


def fits(size, kind, value):
    """Whether a value, whatever it is, is one of this kind."""
    if kind == "lot":
        return is_lot(size, value)
    if kind == "full lot":
        return is_lot(size, value) and value != ()
    least = 0 if kind == "lost count" else 1
    return is_whole_from(value, least, size)


def is_claim(value):
    """Whether a value, whatever it is, has the form of a claim."""
    if type(value) is not tuple or len(value) < 2:
        return False
    word, size, *others = value
    if type(word) is not str or word not in FORMS or not is_size(size):
        return False
    form = FORMS[word]
    return len(others) == len(form) and all([fits(size, kind, other) for kind, other in zip(form, others)])


def is_pair(paper):
    """Whether a paper is a tuple of two things."""
    return type(paper) is tuple and len(paper) == 2


def is_empty(paper):
    """Whether a paper is ()."""
    return type(paper) is tuple and len(paper) == 0


def is_within(paper, size, moments, waves):
    """Whether a paper is a signal, not nought, with places and waves within these."""
    if not is_signal(size, paper):
        return False
    places = places_of(size, paper)
    if not places or not all([moment in moments for moment in places]):
        return False
    return all([step in waves for step in waves_of(size, paper)])


def brings_back(row, size, moments, waves, step):
    """Whether a row of a way back is that of the wave of this step."""
    if not is_row(size, row, len(moments)):
        return False
    # as parts at the moments its numbers make, at each wave, what the row times the table makes there
    sums = signal_from(size, spread(size, moments, row))
    return all([sums[other] == (root(size, 0) if other == step else nought(size)) for other in waves])


def judge_settles(paper, size, moments, waves):
    """A way back."""
    if type(paper) is not tuple or len(paper) != len(waves):
        return False
    return all([brings_back(row, size, moments, waves, step) for row, step in zip(paper, waves)])


def judge_unseen(paper, size, moments, waves):
    """A signal that is nought at the moments."""
    return is_within(paper, size, beside(size, moments), waves)


def judge_survives(paper, size, waves, many):
    """No paper."""
    return is_empty(paper) and survives(size, waves, many)


def judge_lost(paper, size, waves, many):
    """A signal with few places."""
    return is_within(paper, size, beside(size, ()), waves) and len(places_of(size, paper)) <= many


def judge_settles_all(paper, size, moments):
    """No paper."""
    return is_empty(paper) and settles_all(size, moments)


def judge_broken(paper, size, moments):
    """A lot and a signal with waves in it."""
    if not is_pair(paper):
        return False
    lot, signal = paper
    if not is_lot(size, lot) or len(lot) != len(moments):
        return False
    return judge_unseen(signal, size, moments, lot)


def judge_few_waves(paper, size, moments, many):
    """No paper."""
    return is_empty(paper) and fewest_waves(size, moments) >= many


def judge_fewer_waves(paper, size, moments, many):
    """A signal with fewer waves."""
    return is_within(paper, size, moments, beside(size, ())) and len(waves_of(size, paper)) < many


def judge_places_and_waves(paper, size, moments, waves):
    """A signal with just these."""
    return is_signal(size, paper) and places_of(size, paper) == moments and waves_of(size, paper) == waves


def judge_no_such_signal(paper, size, moments, waves):
    """No paper."""
    return is_empty(paper) and signal_on(size, moments, waves) is None


def judge_even_pair(paper, size, moments, waves):
    """No paper."""
    return is_empty(paper) and is_even_pair(size, moments, waves)


def judge_uneven_pair(paper, size, moments, waves):
    """Two waves."""
    if not is_pair(paper):
        return False
    one, other = paper
    if not all([is_whole_from(step, 0, size - 1) and step in waves for step in paper]):
        return False
    return one != other and not is_zero_step(size, moments, one - other)


def judge_partner(paper, size, moments):
    """A partner."""
    return is_lot(size, paper) and are_partners(size, moments, paper)


def judge_no_partner(paper, size, moments):
    """No paper."""
    return is_empty(paper) and partner_of(size, moments) is None


def judge_told_few(paper, size, moments, many):
    """No paper."""
    return is_empty(paper) and tells_few(size, moments, many)


def judge_clashing(paper, size, moments, many):
    """Two signals."""
    if not is_pair(paper) or not all([is_signal(size, signal) for signal in paper]):
        return False
    one, other = paper
    if one == other or not all([one[moment] == other[moment] for moment in moments]):
        return False
    return all([len(waves_of(size, signal)) <= many for signal in paper])


JUDGES = {
    "settles": judge_settles,
    "unseen": judge_unseen,
    "survives": judge_survives,
    "lost": judge_lost,
    "settles all": judge_settles_all,
    "broken": judge_broken,
    "few waves": judge_few_waves,
    "fewer waves": judge_fewer_waves,
    "places and waves": judge_places_and_waves,
    "no such signal": judge_no_such_signal,
    "even pair": judge_even_pair,
    "uneven pair": judge_uneven_pair,
    "partner": judge_partner,
    "no partner": judge_no_partner,
    "told few": judge_told_few,
    "clashing": judge_clashing,
}


def accepts(claim, paper):
    """Whether a claim, whatever it is, is one for the checker, and a paper, whatever it is, one for it."""
    if not is_claim(claim):
        return False
    judge = JUDGES[claim[0]]
    arguments = claim[1:]
    try:
        return judge(paper, *arguments)
    except TooMany:
        # with so many lots that the judge had to go through it is no claim
        return False
