"""A reckoning of the tests' own: it imports nothing of the program.

A number is a tuple of Fractions, as many as the degree of the size. Ranks are reckoned modulo
a prime: it leaves the rest 1 by the size, so that it has roots of one, and it is greater than
any norm of a minor of a table (whose columns are no longer than the square root of the size),
so that just those minors are nought that are nought modulo the prime.
"""

from cmath import exp, pi
from fractions import Fraction
from functools import lru_cache
from itertools import combinations
from math import gcd

SIZES = range(2, 13)


def divided(above, below):
    """The quotient and the rest of two polynomials, the lowest power first; below ends with 1."""
    rest = list(above)
    quotient = [0] * max(len(rest) - len(below) + 1, 0)
    for low in reversed(range(len(quotient))):
        quotient[low] = lead = rest[low + len(below) - 1]
        if lead:
            for at, part in enumerate(below):
                if part:
                    rest[low + at] -= lead * part
    return quotient, rest[:len(below) - 1]


@lru_cache(None)
def round_of(many):
    """The round polynomial: x^many - 1 divided by those of all divisors below."""
    polynomial = [-1] + [0] * (many - 1) + [1]
    for divisor in range(1, many):
        if many % divisor == 0:
            polynomial, _ = divided(polynomial, round_of(divisor))
    return tuple(polynomial)


def phi(size):
    return sum(1 for unit in range(1, size + 1) if gcd(unit, size) == 1)


def power(size, step):
    """z^step as a number."""
    return from_turns(size, [int(at == step % size) for at in range(size)])


def nought(size):
    return (Fraction(0),) * phi(size)


def add(number, other):
    return tuple(part + more for part, more in zip(number, other))


def times(size, number, other):
    product = [Fraction(0)] * (2 * phi(size))
    for at, part in enumerate(number):
        for by, more in enumerate(other):
            if part and more:
                product[at + by] += part * more
    return tuple(divided(product, round_of(size))[1])


def scaled(number, factor):
    return tuple(factor * part for part in number)


def total(size, numbers):
    found = nought(size)
    for number in numbers:
        found = add(found, number)
    return found


def from_turns(size, turns):
    """The sum of turns[k] z^k."""
    return tuple(Fraction(part) for part in divided(turns, round_of(size))[1])


def turned_sum(size, numbers, steps):
    """The sum of the numbers, each times z to the power of its step."""
    turns = [0] * size
    for number, step in zip(numbers, steps):
        for at, part in enumerate(number):
            if part:
                turns[(at + step) % size] += part
    return from_turns(size, turns)


def mirrored(size, number):
    turns = [0] * size
    for at, part in enumerate(number):
        turns[-at % size] += part
    return from_turns(size, turns)


def approximate(size, number):
    """The complex number that it is, rounded: without any round polynomial."""
    return sum(float(part) * exp(2j * pi * at / size) for at, part in enumerate(number))


def read(number):
    """What the program tells as a number."""
    return tuple(Fraction(above, below) for above, below in number)


def told(number):
    """A number as the program tells it."""
    return tuple((part.numerator, part.denominator) for part in number)


def read_signal(signal):
    return tuple(read(number) for number in signal)


def told_signal(signal):
    return tuple(told(number) for number in signal)


def values_of(size, parts):
    """The values of the signal with these parts: a dict of numbers by their waves."""
    return tuple(
        turned_sum(size, parts.values(), [moment * step for step in parts]) for moment in range(size)
    )


def parts_of(size, signal):
    sums = [turned_sum(size, signal, [-moment * step for moment in range(size)]) for step in range(size)]
    return tuple(tuple(each / size for each in part) for part in sums)


def round_product(size, signal, other):
    """The sums of all f(i) g(j - i)."""
    return tuple(
        total(size, [times(size, signal[at], other[moment - at]) for at in range(size)]) for moment in range(size)
    )


def energy(size, signal, moments=None):
    """The sum of f(j) times f(j) mirrored over the moments, or else over all."""
    values = signal if moments is None else [signal[moment] for moment in moments]
    return total(size, [times(size, value, mirrored(size, value)) for value in values])


def places(signal):
    return tuple(at for at, value in enumerate(signal) if any(value))


def waves(size, signal):
    return places(parts_of(size, signal))


def is_prime(many):
    """Whether it is a prime: sure below 3 * 10^24, and as good as sure above."""
    small = (2, 3, 5, 7, 11, 13, 17, 19, 23, 29, 31, 37, 41)
    if many < 2 or any(many % prime == 0 for prime in small):
        return many in small
    odd, twos = many - 1, 0
    while odd % 2 == 0:
        odd, twos = odd // 2, twos + 1
    return all(
        pow(base, odd, many) == 1 or any(pow(base, odd << by, many) == many - 1 for by in range(twos))
        for base in small
    )


@lru_cache(None)
def prime_and_root(size):
    """A prime above all norms of minors, and a number modulo it in the place of z."""
    prime = size ** (size * phi(size) // 2 + 1) * size + 1
    while not is_prime(prime):
        prime += size
    base = 2
    while True:
        found = pow(base, (prime - 1) // size, prime)
        if all(pow(found, step, prime) != 1 for step in range(1, size)):
            return prime, found
        base += 1


@lru_cache(None)
def powers_modulo(size):
    prime, base = prime_and_root(size)
    return tuple(pow(base, step, prime) for step in range(size))


def rank_modulo(prime, rows):
    rows = [list(row) for row in rows]
    rank = 0
    while rows and rows[0]:
        head = next((row for row in rows if row[0]), None)
        if head is None:
            rows = [row[1:] for row in rows]
            continue
        rank += 1
        rows.remove(head)
        rows = [
            [(head[0] * part - row[0] * more) % prime for part, more in zip(row[1:], head[1:])] for row in rows
        ]
    return rank


def rank(size, moments, steps):
    prime, _ = prime_and_root(size)
    powers = powers_modulo(size)
    return rank_modulo(prime, [[powers[moment * step % size] for step in steps] for moment in moments])


def lots(size, least=0):
    """All lots with at least so many in them."""
    return [lot for many in range(least, size + 1) for lot in combinations(range(size), many)]


def lots_of(size, many):
    return list(combinations(range(size), many))


def beside(size, lot):
    return tuple(index for index in range(size) if index not in lot)


def freedom(size, moments, steps):
    """How many free signals there are with places within the moments and waves within the steps."""
    return len(steps) - rank(size, beside(size, moments), steps)


@lru_cache(None)
def freedoms(size):
    """The freedom of all pairs of lots of a small size."""
    every = lots(size)
    return {(one, other): freedom(size, one, other) for one in every for other in every}


def fewest(size, moments):
    """The least number of waves of a signal but nought with places within the moments."""
    for many in range(1, size + 1):
        for steps in lots_of(size, many):
            if freedom(size, moments, steps) > 0:
                return many
    raise AssertionError("each spike has all waves")


def without(lot):
    return [lot[:at] + lot[at + 1:] for at in range(len(lot))]


def has_signal(freedom_of, moments, steps):
    """Whether a signal has just these places and waves.

    The signals within them are a space; those that lack a place, or a wave, are lesser ones if
    some signal has it; and a space is not made up of finitely many lesser ones.
    """
    whole = freedom_of(moments, steps)
    if whole == 0:
        return False
    if any(freedom_of(less, steps) == whole for less in without(moments)):
        return False
    return all(freedom_of(moments, less) != whole for less in without(steps))


def settles(size, moments, steps):
    return rank(size, moments, steps) == len(steps)


def tells(size, moments, many):
    return all(settles(size, moments, steps) for steps in lots_of(size, min(2 * many, size)))


def units(size):
    return [unit for unit in range(1, size) if gcd(unit, size) == 1]


def divisors(size):
    return [count for count in range(1, size + 1) if size % count == 0]


def zero_steps(size, moments):
    found = []
    for step in range(size):
        turns = [0] * size
        for moment in moments:
            turns[moment * step % size] += 1
        if not any(from_turns(size, turns)):
            found.append(step)
    return tuple(found)


@lru_cache(2 ** 14)
def minor(size, moments, steps):
    """The determinant of a table with as many moments as steps, along its last row: turns, not reduced."""
    turns = [0] * size
    if not moments:
        turns[0] = 1
    for at, step in enumerate(steps):
        sign = (-1) ** (len(steps) - 1 - at)
        rest = minor(size, moments[:-1], steps[:at] + steps[at + 1:])
        for by, part in enumerate(rest):
            turns[(by + moments[-1] * step) % size] += sign * part
    return tuple(turns)


def determinant(size, moments, steps):
    return from_turns(size, minor(size, moments, steps))


def first_moments(size, moments, steps):
    """Each moment with which the rank is greater than with those ahead alone."""
    found = ()
    for moment in moments:
        if rank(size, found + (moment,), steps) > len(found):
            found += (moment,)
    return found


def first_waves(size, moments, steps):
    found = ()
    for step in steps:
        if rank(size, moments, found + (step,)) > len(found):
            found += (step,)
    return found


def unseen(size, moments, steps):
    """An unseen signal by Cramer's rule; None."""
    rows, columns = first_moments(size, moments, steps), first_waves(size, moments, steps)
    others = [step for step in steps if step not in columns]
    if not others:
        return None
    chosen = columns + (others[-1],)
    parts = {}
    for at, step in enumerate(chosen):
        parts[step] = scaled(determinant(size, rows, chosen[:at] + chosen[at + 1:]), (-1) ** at)
    return values_of(size, parts)


def conjugated(size, number, unit):
    """The number with z^unit in the place of z."""
    turns = [0] * size
    for at, part in enumerate(number):
        turns[at * unit % size] += part
    return from_turns(size, turns)


def inverse(size, number):
    """The number whose product with this one is 1: the other conjugates, divided by the product of all."""
    others = power(size, 0)
    for unit in units(size)[1:]:
        others = times(size, others, conjugated(size, number, unit))
    norm = times(size, others, number)
    assert not any(norm[1:])
    return scaled(others, 1 / norm[0])


def way_back(size, moments, steps):
    """A way back by Cramer's rule, by as few of the moments as there are steps, the last ones first; None."""
    few = first_moments(size, moments[::-1], steps)
    if len(few) < len(steps):
        return None
    divisor = inverse(size, determinant(size, few, steps))
    back = []
    for column in range(len(steps)):
        others = steps[:column] + steps[column + 1:]
        row = {moment: nought(size) for moment in moments}
        for at, moment in enumerate(few):
            part = determinant(size, few[:at] + few[at + 1:], others)
            row[moment] = scaled(times(size, part, divisor), (-1) ** (at + column))
        back.append(tuple(row.values()))
    return tuple(back)


def is_way_back(size, moments, steps, back):
    """Whether the rows times the table make 1 along the slant, 0 beside."""
    for row, step in zip(back, steps):
        for other in steps:
            made = turned_sum(size, row, [moment * other for moment in moments])
            if made != scaled(power(size, 0), int(step == other)):
                return False
    return True


def survives(size, steps, many):
    """Whether the moments left settle the waves, whichever are lost: each lost lot tried."""
    return all(settles(size, beside(size, lost), steps) for lost in lots_of(size, many))


def settles_all(size, moments):
    """Whether each lot of as many waves is settled, each tried."""
    return all(settles(size, moments, steps) for steps in lots_of(size, len(moments)))


def is_even(size, moments):
    for count in divisors(size):
        counts = [sum(1 for moment in moments if moment % count == rest) for rest in range(count)]
        if max(counts) > min(counts) + 1:
            return False
    return True


def is_even_pair(size, moments, steps):
    zeros = zero_steps(size, moments)
    return all((one - other) % size in zeros for one in steps for other in steps if one != other)


def is_partner(size, moments, lot):
    return sorted((one + other) % size for one in moments for other in lot) == list(range(size))


@lru_cache(None)
def has_partner(size, moments):
    """Whether moved lots cover each moment just once: the first one that is free is covered next."""
    moved = [{(moment + by) % size for moment in moments} for by in range(size)]

    def covers(free):
        if not free:
            return True
        first = min(free)
        return any(covers(free - lot) for lot in moved if first in lot and lot <= free)

    return covers(set(range(size)))


def has_just(size, moments, steps):
    """Whether some signal has just these places and waves."""
    return has_signal(lambda one, other: freedom(size, one, other), moments, steps)


def some_number(chance, size, limit):
    """A number, not nought, by a chance that is the same for each run."""
    while True:
        number = tuple(Fraction(chance.randint(-limit, limit), chance.randint(1, limit)) for _ in range(phi(size)))
        if any(number):
            return number


def some_signal(chance, size, steps, limit):
    """A signal with just these waves."""
    return values_of(size, {step: some_number(chance, size, limit) for step in steps})
