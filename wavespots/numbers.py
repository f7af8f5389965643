"""Sizes, and numbers of a size: sums of powers of its first root of one times fractions."""

from math import gcd

from wavespots.errors import InvalidCount, InvalidIndex, InvalidNumber, InvalidSize, InvalidTurns, NoDivisor
from wavespots.wholes import (
    ROUND_POLYNOMIALS, cofactor, conjugated, number_of, product_of, rest_by_round, scaled, sum_of, whole_over,
    whole_root, whole_row,
)

LEAST_SIZE = 2
GREATEST_SIZE = 12


def is_whole_from(value, low, high):
    """Whether a value, whatever it is, is a whole number from low up to high."""
    return type(value) is int and low <= value <= high


def is_size(value):
    """Whether a value, whatever it is, is a size."""
    return is_whole_from(value, LEAST_SIZE, GREATEST_SIZE)


def check_size(size):
    """Refuse what is no size."""
    if not is_size(size):
        raise InvalidSize(size)


def check_index(index, bound):
    """Refuse what is no whole number from 0 to one less than the bound."""
    if not is_whole_from(index, 0, bound - 1):
        raise InvalidIndex(index)


def check_many(size, many):
    """Refuse what is no whole number from 1 to the size."""
    if not is_whole_from(many, 1, size):
        raise InvalidCount(many)


def divisors_of(count):
    """The divisors of a count from 1 on, ascending."""
    return [divisor for divisor in range(1, count + 1) if count % divisor == 0]


def prime_of(count):
    """The prime that a count above 1 is a power of; None if it is a power of none."""
    prime = divisors_of(count)[1]
    rest = count
    while rest % prime == 0:
        rest = rest // prime
    return prime if rest == 1 else None


def check_divisor(size, divisor):
    """Refuse what is no divisor of the size."""
    if not is_whole_from(divisor, 1, size) or size % divisor != 0:
        raise InvalidCount(divisor)


def round_polynomial(size):
    """The whole numbers of the round polynomial of the size, the lowest power first."""
    check_size(size)
    return ROUND_POLYNOMIALS[size]


def degree_of(size):
    """The degree of the round polynomial of the size: phi."""
    return len(round_polynomial(size)) - 1


def is_fraction(value):
    """Whether a value, whatever it is, is a fraction."""
    if type(value) is not tuple or len(value) != 2:
        return False
    above, below = value
    if type(above) is not int or type(below) is not int:
        return False
    return below > 0 and gcd(above, below) == 1


def is_number(size, value):
    """Whether a value, whatever it is, is a number of the size."""
    degree = degree_of(size)
    if type(value) is not tuple or len(value) != degree:
        return False
    return all([is_fraction(part) for part in value])


def check_number(size, number):
    """Refuse what is no number of the size."""
    if not is_number(size, number):
        raise InvalidNumber(number)


def check_turns(size, turns):
    """Refuse what is no row of as many fractions as the size."""
    if type(turns) is not tuple or len(turns) != size:
        raise InvalidTurns(None)
    for index, part in enumerate(turns):
        if not is_fraction(part):
            raise InvalidTurns(index)


def first_no_number(size, row):
    """The index of the first thing in a row that is no number of the size; None."""
    for index, value in enumerate(row):
        if not is_number(size, value):
            return index
    return None


def is_row(size, value, length):
    """Whether a value, whatever it is, is a tuple of so many numbers of the size."""
    if type(value) is not tuple or len(value) != length:
        return False
    return first_no_number(size, value) is None


def root(size, step):
    """The power of the first root of one that has this step."""
    check_size(size)
    check_index(step, size)
    return number_of(whole_root(size, step), 1)


def nought(size):
    """The number 0."""
    return number_of((0,) * degree_of(size), 1)


def number_from(size, turns):
    """The sum of all turns[k] z^k."""
    check_size(size)
    check_turns(size, turns)
    coefficients, below = whole_over(turns)
    return number_of(rest_by_round(size, coefficients), below)


def check_two(size, number, other):
    """Refuse a wrong size, and what are no numbers of it."""
    check_size(size)
    check_number(size, number)
    check_number(size, other)


def plus(size, number, other):
    """The sum of two numbers."""
    check_two(size, number, other)
    wholes, below = whole_row((number, other))
    return number_of(sum_of(wholes[0], wholes[1]), below)


def times(size, number, other):
    """The product of two numbers."""
    check_two(size, number, other)
    whole, below = whole_over(number)
    factor, under = whole_over(other)
    return number_of(product_of(size, whole, factor), below * under)


def mirrored(size, number):
    """The number with 1 / z in the place of z."""
    check_size(size)
    check_number(size, number)
    whole, below = whole_over(number)
    return number_of(conjugated(size, whole, size - 1), below)


def over(size, number, other):
    """The number whose product with the other one is the first."""
    check_two(size, number, other)
    if other == nought(size):
        raise NoDivisor()
    whole, below = whole_over(number)
    divisor, under = whole_over(other)
    factor = cofactor(size, divisor)
    norm = product_of(size, divisor, factor)[0]
    return number_of(scaled(product_of(size, whole, factor), under), below * norm)
