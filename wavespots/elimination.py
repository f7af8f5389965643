"""Elimination in rows of wholes.

A row may stand for all its multiples by numbers but 0. So no denominators are needed: each row
is kept without the common divisor of its integers, and its pivot is made an integer.
"""

from math import lcm

from wavespots.wholes import cofactor, difference_of, product_of, scaled, stripped, whole_root


def whole_table(size, moments, waves):
    """The table of moments and waves, as rows of wholes."""
    return [[whole_root(size, moment * step) for step in waves] for moment in moments]


def with_units(size, rows):
    """The rows, each with a 1 behind it at its own index, and 0 at those of the others."""
    one = whole_root(size, 0)
    nil = scaled(one, 0)
    found = []
    for at, row in enumerate(rows):
        found.append(row + [one if at == other else nil for other in range(len(rows))])
    return found


def first_place(row):
    """The index of the first whole of a row that is not nought; None."""
    for index, whole in enumerate(row):
        if any(whole):
            return index
    return None


def with_pivot(size, row, at):
    """A multiple of the row whose whole at this index is an integer."""
    factor = cofactor(size, row[at])
    return stripped([product_of(size, factor, whole) for whole in row])


def less_multiple(size, row, at, pivot):
    """A multiple of the row, less one of the pivot's row, that is nought at the pivot."""
    lead = pivot[at][0]
    head = row[at]
    pairs = list(zip(row, pivot))
    return stripped([difference_of(scaled(one, lead), product_of(size, head, other)) for one, other in pairs])


def cleared(size, row, pivots):
    """A multiple of the row, less multiples of the pivots' rows, that is nought at all pivots."""
    for at, pivot in pivots:
        if any(row[at]):
            row = less_multiple(size, row, at, pivot)
    return row


def pivots_of(size, rows):
    """As many free rows as there are, each behind the index of its pivot.

    All rows are sums of multiples of them. Each of them is nought before its own pivot and at the
    pivots of those ahead.
    """
    pivots = []
    for row in rows:
        rest = cleared(size, row, pivots)
        at = first_place(rest)
        if at is not None:
            pivots.append((at, with_pivot(size, rest, at)))
    return pivots


def solved(size, rows):
    """The rows of pivots_of, each made nought at the pivots of all others."""
    found = []
    for at, row in reversed(pivots_of(size, rows)):
        found.append((at, cleared(size, row, found)))
    return found


def kernel(size, rows, width):
    """Free rows of so many wholes, of whose multiples all solutions are sums.

    A solution: its products, whole by whole, with each of the rows add up to nought.
    """
    pivots = solved(size, rows)
    taken = [at for at, _ in pivots]
    return [solution(size, pivots, width, free) for free in range(width) if free not in taken]


def solution(size, pivots, width, free):
    """The solution that is an integer at this index and nought at all others without a pivot."""
    common = 1
    for at, row in pivots:
        common = lcm(common, row[at][0])
    one = whole_root(size, 0)
    found = [scaled(one, 0)] * width
    found[free] = scaled(one, common)
    for at, row in pivots:
        found[at] = scaled(row[free], -(common // row[at][0]))
    return stripped(found)
