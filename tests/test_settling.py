"""[11] to [14] by the tests' own reckoning: all lots of the sizes 2 to 6, drawn ones of the greater."""

import random
import unittest
from fractions import Fraction
from itertools import combinations

from tests import reckon
from wavespots.settling import (
    first_moments, first_waves, rank_of, settles, signal_with, table_of, unseen, unsettled_lot, way_back,
)

PRIMES = (2, 3, 5, 7, 11)
SMALL = range(2, 7)


def pairs(size, many, least=0):
    """Pairs of lots: all of the small sizes."""
    every = reckon.lots(size, least)
    if size in SMALL:
        return [(moments, steps) for moments in every for steps in every]
    chance = random.Random(size)
    return [(chance.choice(every), chance.choice(every)) for _ in range(many)]


def likely_pairs(size, many):
    """Pairs of lots of about as many moments as waves, of the greater sizes."""
    chance = random.Random(size)
    found = []
    for _ in range(many):
        count = chance.randint(1, size)
        more = min(size, max(0, count + chance.randint(-1, 1)))
        found.append(tuple(tuple(sorted(chance.sample(range(size), each))) for each in (more, count)))
    return found


def edges(size):
    """Pairs of (), one index and all."""
    some = ((), (0,), (size - 1,), tuple(range(size)))
    return [(moments, steps) for moments in some for steps in some]


def some_pairs(size, many):
    return pairs(size, many) + ([] if size in SMALL else likely_pairs(size, many) + edges(size))


def within(lot):
    return [part for many in range(len(lot) + 1) for part in combinations(lot, many)]


class TableTest(unittest.TestCase):
    def test_table(self):
        for size in reckon.SIZES:
            for moments, steps in some_pairs(size, 20):
                expected = [[reckon.told(reckon.power(size, j * k)) for k in steps] for j in moments]
                self.assertEqual(table_of(size, moments, steps), tuple(map(tuple, expected)))

    def test_nothing(self):
        for size in reckon.SIZES:
            self.assertEqual(table_of(size, (), ()), ())
            self.assertEqual(table_of(size, (), (0, 1)), ())
            self.assertEqual(table_of(size, (0, 1), ()), ((), ()))


class RankTest(unittest.TestCase):
    def test_rank(self):
        for size in reckon.SIZES:
            for moments, steps in some_pairs(size, 80):
                rank = reckon.rank(size, moments, steps)
                self.assertEqual(rank_of(size, moments, steps), rank)
                self.assertIs(settles(size, moments, steps), rank == len(steps))

    def test_determinants(self):
        for size in SMALL:
            for moments, steps in pairs(size, 0):
                if len(moments) == len(steps):
                    is_free = any(reckon.determinant(size, moments, steps))
                    self.assertIs(settles(size, moments, steps), is_free)

    def test_rank_by_minors(self):
        for size in range(2, 6):
            for moments, steps in pairs(size, 0):
                free = [
                    len(rows) for rows in within(moments)
                    if any(any(reckon.determinant(size, rows, lot)) for lot in combinations(steps, len(rows)))
                ]
                self.assertEqual(rank_of(size, moments, steps), max(free))

    def test_determinants_of_greater_sizes(self):
        for size in range(7, 13):
            chance = random.Random(size)
            for _ in range(25):
                many = chance.randint(1, 6)
                moments, steps = [tuple(sorted(chance.sample(range(size), many))) for _ in range(2)]
                is_free = any(reckon.determinant(size, moments, steps))
                self.assertIs(settles(size, moments, steps), is_free)

    def test_nothing(self):
        for size in reckon.SIZES:
            self.assertIs(settles(size, (), ()), True)
            self.assertIs(settles(size, (size - 1,), ()), True)
            self.assertIs(settles(size, (), (0,)), False)
            self.assertEqual(rank_of(size, (), (0, 1)), 0)
            self.assertEqual(rank_of(size, (0, 1), ()), 0)

    def test_primes(self):
        for size in PRIMES:
            for moments, steps in some_pairs(size, 60):
                self.assertEqual(rank_of(size, moments, steps), min(len(moments), len(steps)))

    def test_moments_one_behind_the_other(self):
        for size in reckon.SIZES:
            chance = random.Random(size)
            for many in range(1, size + 1):
                start = chance.randrange(size)
                row = tuple(sorted((start + at) % size for at in range(many)))
                steps = tuple(sorted(chance.sample(range(size), many)))
                self.assertIs(settles(size, row, steps), True)
                self.assertIs(settles(size, steps, row), True)

    def test_the_coset_that_sees_nothing(self):
        # moments that leave the same rest by m see waves alike that do by N / m
        for size in (4, 6, 8, 9, 10, 12):
            for count in reckon.divisors(size)[1:-1]:
                moments = tuple(range(1, size, count))
                for many in range(1, size + 1):
                    self.assertEqual(rank_of(size, moments, tuple(range(many))), min(many, size // count))
                self.assertEqual(rank_of(size, moments, (0, size // count)), 1)


class UnseenTest(unittest.TestCase):
    def check(self, size, moments, steps):
        found = unseen(size, moments, steps)
        with self.subTest(size=size, moments=moments, waves=steps):
            self.assertEqual(found is None, reckon.settles(size, moments, steps))
            if found is not None:
                signal = reckon.read_signal(found)
                self.assertEqual((found, len(found)), (reckon.told_signal(signal), size))
                self.assertEqual({len(number) for number in found}, {reckon.phi(size)})
                self.assertLessEqual(set(reckon.places(signal)), set(reckon.beside(size, moments)))
                self.assertLessEqual(set(reckon.waves(size, signal)), set(steps))
                self.assertTrue(any(map(any, signal)))

    def test_unseen(self):
        for size in reckon.SIZES:
            for moments, steps in some_pairs(size, 40):
                self.check(size, moments, steps)

    def test_the_signal_that_is_left(self):
        # without one of all moments just the spike there is not seen, up to a number
        for size in reckon.SIZES:
            whole = tuple(range(size))
            for moment in range(size):
                moments = reckon.beside(size, (moment,))
                self.check(size, moments, whole)
                self.assertEqual(reckon.places(reckon.read_signal(unseen(size, moments, whole))), (moment,))


class WayBackTest(unittest.TestCase):
    def check(self, size, moments, steps):
        found = way_back(size, moments, steps)
        with self.subTest(size=size, moments=moments, waves=steps):
            self.assertEqual(found is None, not reckon.settles(size, moments, steps))
            if found is None:
                return None
            self.assertEqual((type(found), len(found)), (tuple, len(steps)))
            rows = []
            for row in found:
                self.assertEqual((type(row), len(row)), (tuple, len(moments)))
                rows.append(reckon.read_signal(row))
                self.assertEqual(reckon.told_signal(rows[-1]), row)
                self.assertEqual({len(number) for number in row} - {reckon.phi(size)}, set())
            self.assertTrue(reckon.is_way_back(size, moments, steps, rows))
        return rows

    def test_times_the_table(self):
        for size in reckon.SIZES:
            for moments, steps in some_pairs(size, 30):
                self.check(size, moments, steps)

    def test_as_many_moments_as_waves(self):
        # there is just one way back: the one by Cramer's rule
        for size in reckon.SIZES:
            for moments, steps in pairs(size, 0, 1) if size < 6 else likely_pairs(size, 25):
                if len(moments) == len(steps) <= 6:
                    rows = self.check(size, moments, steps)
                    expected = reckon.way_back(size, moments, steps)
                    self.assertEqual(rows is None, expected is None)
                    if rows is not None:
                        self.assertEqual(tuple(rows), expected)

    def test_all_moments_and_waves(self):
        for size in reckon.SIZES:
            whole = tuple(range(size))
            rows = self.check(size, whole, whole)
            for step, row in zip(whole, rows):
                expected = [reckon.scaled(reckon.power(size, -step * at), Fraction(1, size)) for at in whole]
                self.assertEqual(list(row), expected)

    def test_nothing(self):
        for size in reckon.SIZES:
            for moments in ((), (0,), tuple(range(size))):
                self.assertEqual(way_back(size, moments, ()), ())
            self.assertIsNone(way_back(size, (), (0,)))
            self.assertEqual(self.check(size, (size - 1,), (1,)), [(reckon.power(size, 1),)])

    def test_signals_come_back(self):
        for size in reckon.SIZES:
            chance = random.Random(size)
            for moments, steps in pairs(size, 10)[::7] + likely_pairs(size, 15):
                found = way_back(size, moments, steps)
                if found is not None:
                    parts = {step: reckon.some_number(chance, size, 9) for step in steps}
                    signal = reckon.values_of(size, parts)
                    for step, row in zip(steps, found):
                        numbers = [reckon.times(size, number, signal[at])
                                   for number, at in zip(reckon.read_signal(row), moments)]
                        self.assertEqual(reckon.total(size, numbers), parts[step])
                    values = reckon.told_signal([signal[at] for at in moments])
                    self.assertEqual(signal_with(size, moments, steps, values), reckon.told_signal(signal))


class SignalWithTest(unittest.TestCase):
    def check(self, size, moments, steps, values, has_one):
        found = signal_with(size, moments, steps, reckon.told_signal(values))
        with self.subTest(size=size, moments=moments, waves=steps):
            self.assertEqual(found is not None, has_one)
            if found is not None:
                signal = reckon.read_signal(found)
                self.assertEqual((found, len(found)), (reckon.told_signal(signal), size))
                self.assertEqual([signal[moment] for moment in moments], list(values))
                self.assertLessEqual(set(reckon.waves(size, signal)), set(steps))

    def test_the_values_of_one(self):
        for size in reckon.SIZES:
            chance = random.Random(size)
            for moments, steps in some_pairs(size, 20):
                signal = reckon.some_signal(chance, size, steps, 9)
                self.check(size, moments, steps, [signal[moment] for moment in moments], True)

    def test_noughts(self):
        for size in reckon.SIZES:
            for moments, steps in some_pairs(size, 10):
                self.check(size, moments, steps, [reckon.nought(size)] * len(moments), True)

    def test_some_or_none(self):
        # a spike's values are those of some signal if its moment adds to the rank of the others;
        # those of a signal and a spike together are then, too, and only then
        for size in reckon.SIZES:
            chance = random.Random(size)
            for moments, steps in some_pairs(size, 12):
                rank = reckon.rank(size, moments, steps)
                for at, moment in list(enumerate(moments))[:2]:
                    others = moments[:at] + moments[at + 1:]
                    has_one = reckon.rank(size, others, steps) < rank
                    values = [reckon.nought(size)] * len(moments)
                    values[at] = reckon.some_number(chance, size, 5)
                    self.check(size, moments, steps, values, has_one)
                    signal = reckon.some_signal(chance, size, steps, 3)
                    values = [reckon.add(value, signal[here]) for value, here in zip(values, moments)]
                    self.check(size, moments, steps, values, has_one)

    def test_great_fractions(self):
        part = (Fraction(10 ** 200 + 1, 3 ** 300), Fraction(-7 ** 200, 2 ** 500))
        values = reckon.values_of(6, {1: part, 4: part})
        told = reckon.told_signal(values)
        self.assertEqual(signal_with(6, (0, 5), (1, 4), (told[0], told[5])), told)
        little = reckon.told(reckon.add(values[5], (Fraction(1, 10 ** 390), Fraction(0))))
        self.assertNotEqual(signal_with(6, (0, 5), (1, 4), (told[0], little)), told)
        self.assertIsNone(signal_with(6, (0, 3, 5), (1, 4), (told[0], told[3], little)))

    def test_great_fractions_of_all_sizes(self):
        for size in reckon.SIZES:
            chance = random.Random(size)
            moments, steps = [tuple(sorted(chance.sample(range(size), size // 2))) for _ in range(2)]
            signal = reckon.some_signal(chance, size, steps, 10 ** 150)
            self.check(size, moments, steps, [signal[moment] for moment in moments], True)


class FirstOnesTest(unittest.TestCase):
    """[13]"""

    def test_first_moments_and_waves(self):
        for size in reckon.SIZES:
            for moments, steps in some_pairs(size, 60):
                self.assertEqual(first_moments(size, moments, steps), reckon.first_moments(size, moments, steps))
                self.assertEqual(first_waves(size, moments, steps), reckon.first_waves(size, moments, steps))

    def test_each_by_the_rows_ahead(self):
        for size in reckon.SIZES:
            for moments, steps in some_pairs(size, 12):
                ranks = [reckon.rank(size, moments[:many], steps) for many in range(len(moments) + 1)]
                expected = [moment for at, moment in enumerate(moments) if ranks[at + 1] > ranks[at]]
                self.assertEqual(first_moments(size, moments, steps), tuple(expected))
                ranks = [reckon.rank(size, moments, steps[:many]) for many in range(len(steps) + 1)]
                expected = [step for at, step in enumerate(steps) if ranks[at + 1] > ranks[at]]
                self.assertEqual(first_waves(size, moments, steps), tuple(expected))

    def test_they_settle(self):
        for size in reckon.SIZES:
            for moments, steps in some_pairs(size, 30):
                rank = reckon.rank(size, moments, steps)
                rows, columns = first_moments(size, moments, steps), first_waves(size, moments, steps)
                self.assertEqual((len(rows), len(columns)), (rank, rank))
                self.assertTrue(reckon.settles(size, moments, columns))
                self.assertTrue(reckon.settles(size, rows, columns))

    def test_first_moments_settle_what_all_do(self):
        for size in reckon.SIZES:
            chance = random.Random(size)
            for moments, steps in pairs(size, 8)[::3]:
                rows = first_moments(size, moments, steps)
                lots = within(steps)
                for lot in chance.sample(lots, min(len(lots), 12)):
                    self.assertIs(settles(size, rows, lot), reckon.settles(size, moments, lot))

    def test_exchange(self):
        # each settled lot is within one of as many waves as the rank, which is settled, too
        for size in reckon.SIZES:
            chance = random.Random(size)
            for moments, steps in pairs(size, 8)[::3]:
                rank = rank_of(size, moments, steps)
                lots = [lot for lot in within(steps) if settles(size, moments, lot)] if size < 6 else [
                    lot for lot in [tuple(sorted(chance.sample(steps, chance.randint(0, len(steps)))))
                                    for _ in range(4)] if settles(size, moments, lot)]
                for lot in lots:
                    # the lot's own waves first, then those of the others that add to the rank
                    order = lot + tuple(step for step in steps if step not in lot)
                    grown = tuple(sorted(reckon.first_waves(size, moments, order)))
                    self.assertLessEqual(set(lot), set(grown))
                    self.assertEqual(len(grown), rank)
                    self.assertIs(settles(size, moments, grown), True)

    def test_greatest_settled_lots_have_as_many_as_the_rank(self):
        for size in range(2, 6):
            for moments, steps in pairs(size, 0):
                settled = [lot for lot in within(steps) if settles(size, moments, lot)]
                greatest = [lot for lot in settled if not any(set(lot) < set(more) for more in settled)]
                self.assertEqual({len(lot) for lot in greatest}, {rank_of(size, moments, steps)})

    def test_nothing(self):
        for size in reckon.SIZES:
            for function in (first_moments, first_waves):
                self.assertEqual(function(size, (), ()), ())
                self.assertEqual(function(size, (), (0, 1)), ())
                self.assertEqual(function(size, (0, 1), ()), ())
                self.assertEqual(function(size, tuple(range(size)), tuple(range(size))), tuple(range(size)))
            self.assertEqual(first_moments(size, tuple(range(size)), (1,)), (0,))
            self.assertEqual(first_waves(size, (1,), tuple(range(size))), (0,))


class TurnedTest(unittest.TestCase):
    """[14]: what is so of lots beside, moved and multiplied."""

    def test_beside(self):
        for size in reckon.SIZES:
            for moments, steps in some_pairs(size, 40):
                there = (reckon.beside(size, moments), reckon.beside(size, steps))
                self.assertEqual(len(steps) - rank_of(size, moments, steps), len(there[0]) - rank_of(size, *there))
                if len(moments) == len(steps):
                    expected = reckon.settles(size, moments, steps)
                    self.assertIs(settles(size, *there), expected)
                    self.assertIs(settles(size, steps, moments), expected)
                    for one, other in ((moments, steps), (steps, moments), there, there[::-1]):
                        self.assertIs(way_back(size, one, other) is not None, expected)
                        self.assertIs(unseen(size, one, other) is None, expected)

    def test_moved_and_multiplied(self):
        for size in reckon.SIZES:
            chance = random.Random(size)
            for moments, steps in some_pairs(size, 40):
                by, unit = chance.randrange(size), chance.choice(reckon.units(size))
                expected = reckon.settles(size, moments, steps)
                moved, more = [tuple(sorted((each + by) % size for each in lot)) for lot in (moments, steps)]
                self.assertIs(settles(size, moved, steps), expected)
                self.assertIs(settles(size, moments, more), expected)
                times, much = [tuple(sorted(each * unit % size for each in lot)) for lot in (moments, steps)]
                self.assertIs(settles(size, times, steps), reckon.settles(size, moments, much))
                self.assertEqual(rank_of(size, times, steps), rank_of(size, moments, much))


class UnsettledLotTest(unittest.TestCase):
    def test_unsettled_lot(self):
        for size in reckon.SIZES:
            for moments, steps in likely_pairs(size, 20):
                found = unsettled_lot(size, moments, len(steps))
                if found is None:
                    lots = reckon.lots_of(size, len(steps))
                    self.assertTrue(all(reckon.settles(size, moments, lot) for lot in lots))
                else:
                    self.assertIn(found, reckon.lots_of(size, len(steps)))
                    self.assertFalse(reckon.settles(size, moments, found))


if __name__ == "__main__":
    unittest.main()
