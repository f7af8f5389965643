"""Right papers that the tests make themselves, with nothing of the program: by Cramer's rule, and drawn."""

from tests import judge, reckon


def multiple(chance, size, signal, limit=3):
    """A signal times a number, not nought."""
    number = reckon.some_number(chance, size, limit)
    return tuple(reckon.times(size, value, number) for value in signal)


def added(signal, other):
    return tuple(reckon.add(value, more) for value, more in zip(signal, other))


def less(signal, other):
    return added(signal, tuple(reckon.scaled(value, -1) for value in other))


def unseen(size, moments, steps, chance):
    return reckon.told_signal(multiple(chance, size, reckon.unseen(size, moments, steps)))


def way_back(size, moments, steps, chance):
    """A way back, with a row of numbers added to each row that is nought times the table."""
    back = reckon.way_back(size, moments, steps)
    few = set(reckon.first_moments(size, moments, steps))
    if len(few) < len(moments):
        # moments and waves change places: an unseen signal's parts are a row that is nought times the table
        parts = reckon.parts_of(size, reckon.unseen(size, steps, moments))
        row = [parts[moment] for moment in moments]
        back = [added(each, multiple(chance, size, row)) for each in back]
    return tuple(reckon.told_signal(row) for row in back)


def sparse(size, lots, steps):
    """The first of the lots that is not settled by the moments beside it, and a signal with its places there."""
    for lot in lots:
        moments = reckon.beside(size, lot)
        if not reckon.settles(size, moments, steps):
            return reckon.unseen(size, moments, steps)
    return None


def lost(size, steps, many, chance):
    return reckon.told_signal(multiple(chance, size, sparse(size, reversed(reckon.lots_of(size, many)), steps)))


def broken(size, moments, chance):
    for lot in reversed(reckon.lots_of(size, len(moments))):
        if not reckon.settles(size, moments, lot):
            return lot, unseen(size, moments, lot, chance)
    return None


def fewer_waves(size, moments, many, chance):
    others = reckon.beside(size, moments)
    for lot in reversed(reckon.lots_of(size, many - 1)):
        if not reckon.settles(size, others, lot):
            return unseen(size, others, lot, chance)
    return None


def places_and_waves(size, moments, steps, chance):
    """Drawn sums of signals within the moments and waves, until one has all of them."""
    others = reckon.beside(size, moments)
    rows = reckon.first_moments(size, others, steps)
    columns = reckon.first_waves(size, others, steps)
    free = []
    for step in steps:
        if step not in columns:
            free.append(reckon.unseen(size, rows, columns + (step,)))
    while True:
        signal = (reckon.nought(size),) * size
        for each in free:
            signal = added(signal, multiple(chance, size, each))
        if reckon.places(signal) == moments and reckon.waves(size, signal) == steps:
            return reckon.told_signal(signal)


def uneven_pair(size, moments, steps, chance):
    zeros = reckon.zero_steps(size, moments)
    found = [(one, other) for one in steps for other in steps if one != other and (one - other) % size not in zeros]
    return chance.choice(found)


def partner(size, moments, chance):
    found = [lot for lot in reckon.lots_of(size, size // len(moments)) if reckon.is_partner(size, moments, lot)]
    return chance.choice(found)


def clashing(size, moments, many, chance):
    """Two signals whose difference is not seen, with some of the waves of both drawn."""
    lots = reckon.lots_of(size, min(2 * many, size))
    lot = next(lot for lot in reversed(lots) if not reckon.settles(size, moments, lot))
    parts = reckon.parts_of(size, multiple(chance, size, reckon.unseen(size, moments, lot)))
    order = list(lot)
    chance.shuffle(order)
    more = reckon.some_signal(chance, size, order[:1], 3)
    one = added(reckon.values_of(size, {step: parts[step] for step in order[:many]}), more)
    other = added(reckon.values_of(size, {step: reckon.scaled(parts[step], -1) for step in order[many:]}), more)
    if len(reckon.waves(size, other)) > many:
        one, other = less(one, more), less(other, more)
    return reckon.told_signal(one), reckon.told_signal(other)


MAKERS = {
    "settles": way_back, "unseen": unseen, "lost": lost, "broken": broken, "fewer waves": fewer_waves,
    "places and waves": places_and_waves, "uneven pair": uneven_pair, "partner": partner, "clashing": clashing,
}


def for_claim(claim, chance):
    """A right paper for a claim that is so."""
    word, *arguments = claim
    return () if word in judge.WITHOUT_PAPERS else MAKERS[word](*arguments, chance)
