"""Even pairs: which moments see the same share of all signals' energy, and which have a partner."""

from wavespots.lots import check_full_lot, lots_with_nought
from wavespots.numbers import check_size, divisors_of, prime_of
from wavespots.wholes import rest_by_round


def zero_steps(size, moments):
    """The lot of the steps s for which the sum of z^(j s) over the moments j is 0."""
    check_size(size)
    check_full_lot(size, moments)
    return tuple([step for step in range(size) if is_zero_step(size, moments, step)])


def is_zero_step(size, moments, step):
    """Whether the sum of z^(j step) over the moments j is 0."""
    turns = [0] * size
    for moment in moments:
        turns[moment * step % size] += 1
    return not any(rest_by_round(size, turns))


def odd_ones(size, lot, steps):
    """Two unlike indexes of the lot whose difference, going round, is none of the steps; None."""
    for one in lot:
        for other in lot:
            if one != other and (one - other) % size not in steps:
                return one, other
    return None


def uneven_waves(size, moments, waves):
    """Two unlike waves whose difference, going round, is no zero step of the moments; None."""
    check_size(size)
    check_full_lot(size, moments)
    check_full_lot(size, waves)
    return odd_ones(size, waves, zero_steps(size, moments))


def is_even_pair(size, moments, waves):
    """Whether the moments and the waves are an even pair."""
    return uneven_waves(size, moments, waves) is None


def even_pair_of(size, moments):
    """A lot with 0 in it, of as many indexes, that makes an even pair with the moments; None."""
    steps = zero_steps(size, moments)
    for lot in lots_with_nought(size, len(moments) - 1):
        if odd_ones(size, lot, steps) is None:
            return lot
    return None


def parts_in(size, moments):
    """The divisors above 1 whose round polynomials divide the sum of x^j over the moments j."""
    steps = zero_steps(size, moments)
    return tuple([divisor for divisor in divisors_of(size)[1:] if size // divisor in steps])


def has_first_sign(size, moments):
    """Whether the number of moments is the product of the primes of the parts that are powers of one."""
    product = 1
    for part in parts_in(size, moments):
        prime = prime_of(part)
        if prime is not None:
            product = product * prime
    return product == len(moments)


def has_second_sign(size, moments):
    """Whether the product of any two parts that are powers of unlike primes is a part, too."""
    parts = parts_in(size, moments)
    powers = [part for part in parts if prime_of(part) is not None]
    return all([one * other in parts for one in powers for other in powers if prime_of(one) != prime_of(other)])


def are_partners(size, moments, lot):
    """Whether each moment comes just once as the sum of a moment and an index of the lot, going round."""
    sums = sorted([(moment + index) % size for moment in moments for index in lot])
    return sums == list(range(size))


def partner_of(size, moments):
    """A partner of the moments with 0 in it; None."""
    check_size(size)
    check_full_lot(size, moments)
    many = size // len(moments)
    for lot in lots_with_nought(size, many - 1):
        if are_partners(size, moments, lot):
            return lot
    return None
