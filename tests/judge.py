"""What [24] says, by the tests' own reckoning: it imports nothing of the program.

`is_claim`, `is_so` and `is_paper` tell whether a value is a claim, whether what it claims is so,
and whether a paper is one for it.
"""

from functools import lru_cache
from math import comb, gcd

from tests import reckon

MOST_LOTS = 300
TWO_LOTS, LOT_AND_COUNT, ONE_LOT = 2, 1, 0
FORMS = {
    "settles": (TWO_LOTS, True), "unseen": (TWO_LOTS, True),
    "survives": (LOT_AND_COUNT, True), "lost": (LOT_AND_COUNT, True),
    "settles all": (ONE_LOT, True), "broken": (ONE_LOT, True),
    "few waves": (LOT_AND_COUNT, False), "fewer waves": (LOT_AND_COUNT, False),
    "places and waves": (TWO_LOTS, False), "no such signal": (TWO_LOTS, False),
    "even pair": (TWO_LOTS, False), "uneven pair": (TWO_LOTS, False),
    "partner": (ONE_LOT, False), "no partner": (ONE_LOT, False),
    "told few": (LOT_AND_COUNT, False), "clashing": (LOT_AND_COUNT, False),
}
OPPOSITES = {
    "settles": "unseen", "survives": "lost", "settles all": "broken", "few waves": "fewer waves",
    "places and waves": "no such signal", "even pair": "uneven pair", "partner": "no partner", "told few": "clashing",
}
OPPOSITES.update({other: word for word, other in list(OPPOSITES.items())})
# those that are accepted with () exactly if they are so
WITHOUT_PAPERS = (
    "survives", "settles all", "few waves", "no such signal", "even pair", "no partner", "told few",
)
POWERS = (2, 3, 4, 5, 7, 8, 9, 11)


def is_whole(value):
    return type(value) is int


def is_lot(size, value):
    if type(value) is not tuple or not all(is_whole(each) for each in value):
        return False
    return list(value) == sorted(set(value)) and set(value) <= set(range(size))


def is_fraction(value):
    if type(value) is not tuple or len(value) != 2 or not all(is_whole(each) for each in value):
        return False
    return value[1] > 0 and gcd(*value) == 1


def is_number(size, value):
    return type(value) is tuple and len(value) == reckon.phi(size) and all(is_fraction(each) for each in value)


def is_row(size, value, length):
    return type(value) is tuple and len(value) == length and all(is_number(size, each) for each in value)


def is_claim(value):
    if type(value) is not tuple or len(value) < 3 or type(value[0]) is not str or value[0] not in FORMS:
        return False
    word, size = value[:2]
    form, lets_none = FORMS[word]
    if not is_whole(size) or not 2 <= size <= 12 or len(value) != (3 if form == ONE_LOT else 4):
        return False
    if form == LOT_AND_COUNT:
        least = 0 if lets_none else 1
        if not is_whole(value[3]) or not least <= value[3] <= size:
            return False
    lots = value[2:] if form == TWO_LOTS else value[2:3]
    if not all(is_lot(size, lot) and (lets_none or len(lot) > 0) for lot in lots):
        return False
    return how_many(*value) <= MOST_LOTS


def how_many(word, size, lot, many=None):
    """How many lots must be gone through."""
    if word == "survives":
        return comb(size, many)
    if word == "told few":
        return comb(size, min(2 * many, size))
    if word == "settles all" and size not in POWERS:
        return comb(size, len(lot))
    return 1


@lru_cache(None)
def is_so(claim):
    """Whether what a claim says is so."""
    word, size, *others = claim
    if word == "settles":
        return reckon.settles(size, *others)
    if word == "survives":
        return reckon.survives(size, *others)
    if word == "settles all":
        # for powers of primes as [16] says, which other tests check
        return reckon.is_even(size, *others) if size in POWERS else reckon.settles_all(size, *others)
    if word == "few waves":
        return reckon.fewest(size, others[0]) >= others[1]
    if word == "places and waves":
        return reckon.has_just(size, *others)
    if word == "even pair":
        return reckon.is_even_pair(size, *others)
    if word == "partner":
        return reckon.has_partner(size, *others)
    if word == "told few":
        return reckon.tells(size, *others)
    return not is_so((OPPOSITES[word], size, *others))


@lru_cache(None)
def waves(size, signal):
    return reckon.waves(size, reckon.read_signal(signal))


def places(signal):
    return reckon.places(reckon.read_signal(signal))


def is_signal_within(size, value, moments, steps):
    """Whether it is a signal, not nought, with places and waves within these."""
    if not is_row(size, value, size) or places(value) == ():
        return False
    return set(places(value)) <= set(moments) and set(waves(size, value)) <= set(steps)


def is_paper(claim, paper):
    """Whether a paper, whatever it is, is one for a claim."""
    word, size, *others = claim
    if word in WITHOUT_PAPERS:
        return type(paper) is tuple and len(paper) == 0 and is_so(claim)
    return PAPERS[word](paper, size, *others)


def settles(paper, size, moments, steps):
    if type(paper) is not tuple or len(paper) != len(steps):
        return False
    if not all(is_row(size, row, len(moments)) for row in paper):
        return False
    return reckon.is_way_back(size, moments, steps, [reckon.read_signal(row) for row in paper])


def unseen(paper, size, moments, steps):
    return is_signal_within(size, paper, reckon.beside(size, moments), steps)


def lost(paper, size, steps, many):
    return is_signal_within(size, paper, range(size), steps) and len(places(paper)) <= many


def broken(paper, size, moments):
    if type(paper) is not tuple or len(paper) != 2 or not is_lot(size, paper[0]):
        return False
    return len(paper[0]) == len(moments) and unseen(paper[1], size, moments, paper[0])


def fewer_waves(paper, size, moments, many):
    return is_signal_within(size, paper, moments, range(size)) and len(waves(size, paper)) < many


def places_and_waves(paper, size, moments, steps):
    return is_row(size, paper, size) and places(paper) == moments and waves(size, paper) == steps


def uneven_pair(paper, size, moments, steps):
    if type(paper) is not tuple or len(paper) != 2:
        return False
    if not all(is_whole(each) and each in steps for each in paper) or paper[0] == paper[1]:
        return False
    return (paper[0] - paper[1]) % size not in reckon.zero_steps(size, moments)


def partner(paper, size, moments):
    return is_lot(size, paper) and reckon.is_partner(size, moments, paper)


def clashing(paper, size, moments, many):
    if type(paper) is not tuple or len(paper) != 2 or not all(is_row(size, each, size) for each in paper):
        return False
    if paper[0] == paper[1] or any(len(waves(size, each)) > many for each in paper):
        return False
    return [paper[0][at] for at in moments] == [paper[1][at] for at in moments]


PAPERS = {
    "settles": settles, "unseen": unseen, "lost": lost, "broken": broken, "fewer waves": fewer_waves,
    "places and waves": places_and_waves, "uneven pair": uneven_pair, "partner": partner, "clashing": clashing,
}


def accepts(claim, paper):
    return is_claim(claim) and is_paper(claim, paper)
