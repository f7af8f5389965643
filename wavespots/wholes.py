"""Wholes: numbers of a size without their denominators.

A whole is a tuple of as many integers as the degree of the size. Rows of wholes are reckoned
with beside one common denominator, or none where only multiples matter: lowest terms for each
step would cost most of the time. Nothing is checked here.
"""

from math import gcd, lcm

ROUND_POLYNOMIALS = {
    2: (1, 1),
    3: (1, 1, 1),
    4: (1, 0, 1),
    5: (1, 1, 1, 1, 1),
    6: (1, -1, 1),
    7: (1, 1, 1, 1, 1, 1, 1),
    8: (1, 0, 0, 0, 1),
    9: (1, 0, 0, 1, 0, 0, 1),
    10: (1, -1, 1, -1, 1),
    11: (1, 1, 1, 1, 1, 1, 1, 1, 1, 1, 1),
    12: (1, 0, -1, 0, 1),
}


def fraction_of(above, below):
    """The fraction above / below in lowest terms, whatever the sign of below."""
    common = gcd(above, below)
    if below < 0:
        common = -common
    return (above // common, below // common)


def number_of(whole, below):
    """The number that a whole over one denominator is."""
    return tuple([fraction_of(above, below) for above in whole])


def whole_row(row):
    """A row of numbers as wholes over one common denominator, and this denominator."""
    common = 1
    for number in row:
        for _, below in number:
            common = lcm(common, below)
    wholes = [tuple([above * (common // below) for above, below in number]) for number in row]
    return wholes, common


def whole_over(number):
    """A row of fractions as integers over one common denominator, and this denominator."""
    wholes, common = whole_row((number,))
    return wholes[0], common


def stripped(row):
    """A row of wholes without the common divisor of all their integers."""
    common = 0
    for whole in row:
        for part in whole:
            common = gcd(common, part)
    if common < 2:
        return row
    return [tuple([part // common for part in whole]) for whole in row]


def rest_by_round(size, coefficients):
    """The whole that is left of a polynomial when the round polynomial divides it."""
    divisor = ROUND_POLYNOMIALS[size]
    degree = len(divisor) - 1
    rest = list(coefficients)
    while len(rest) > degree:
        lead = rest.pop()
        if lead != 0:
            low = len(rest) - degree
            for at in range(degree):
                rest[low + at] -= lead * divisor[at]
    return tuple(rest)


def scaled(whole, factor):
    """A whole times an integer."""
    return tuple([factor * part for part in whole])


def sum_of(whole, other):
    """The sum of two wholes."""
    return tuple([part + added for part, added in zip(whole, other)])


def difference_of(whole, other):
    """The first whole less the other one."""
    return tuple([part - taken for part, taken in zip(whole, other)])


def times_root(size, whole, step):
    """A whole times the power of the first root of one that has this step."""
    turns = [0] * size
    for at, part in enumerate(whole):
        turns[(at + step) % size] += part
    return rest_by_round(size, turns)


def whole_root(size, step):
    """The power of the first root of one that has this step, whatever integer it is."""
    return times_root(size, (1,), step)


def product_of(size, whole, other):
    """The product of two wholes."""
    sums = [0] * (2 * len(whole) - 1)
    for low, factor in enumerate(whole):
        if factor != 0:
            for at, part in enumerate(other):
                sums[low + at] += factor * part
    return rest_by_round(size, sums)


def sum_of_products(size, row, others):
    """The sum of all products of a whole of a row and that of another row at the same index."""
    total = scaled(whole_root(size, 0), 0)
    for whole, other in zip(row, others):
        total = sum_of(total, product_of(size, whole, other))
    return total


def conjugated(size, whole, unit):
    """A whole with the power of the first root that has this step in the place of the root."""
    turns = [0] * size
    for at, part in enumerate(whole):
        turns[at * unit % size] += part
    return rest_by_round(size, turns)


def cofactor(size, whole):
    """A whole whose product with the given one, if that is not nought, is an integer but 0.

    It is the product of the other conjugates, and the product of all of them is the norm.
    """
    product = whole_root(size, 0)
    for unit in range(2, size):
        if gcd(unit, size) == 1:
            product = product_of(size, product, conjugated(size, whole, unit))
    return product


def sums_of_turns(size, row, direction):
    """For each k from 0 below the size the sum, over all j, of row[j] z^(direction j k)."""
    found = []
    for k in range(size):
        turns = [0] * size
        for j, whole in enumerate(row):
            for at, part in enumerate(whole):
                turns[(at + direction * j * k) % size] += part
        found.append(rest_by_round(size, turns))
    return found
