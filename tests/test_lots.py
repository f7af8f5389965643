import random
import unittest
from itertools import product

from tests import reckon
from wavespots.errors import TooMany
from wavespots.lots import beside, check_few_lots, is_lot, lot_moved, lot_times, lots_with_nought, rests
from wavespots.settling import rank_of, settles


def some_pairs(size, many):
    """Pairs of lots: all of the smallest sizes."""
    every = reckon.lots(size)
    if size <= 4:
        return list(product(every, repeat=2))
    chance = random.Random(size)
    return [(chance.choice(every), chance.choice(every)) for _ in range(many)]


class LotsTest(unittest.TestCase):
    def test_all_lots(self):
        for size in reckon.SIZES:
            for lot in reckon.lots(size):
                self.assertTrue(is_lot(size, lot))
                others = beside(size, lot)
                self.assertEqual(sorted(lot + others), list(range(size)))
                self.assertEqual(others, tuple(sorted(others)))
                self.assertEqual(beside(size, others), lot)

    def test_what_is_no_lot(self):
        for size in (2, 3, 4):
            right = reckon.lots(size)
            for length in range(5):
                for value in product(range(-1, size + 2), repeat=length):
                    self.assertIs(is_lot(size, value), value in right)

    def test_lots_with_nought(self):
        for size in reckon.SIZES:
            for more in range(size):
                expected = [lot for lot in reckon.lots_of(size, more + 1) if 0 in lot]
                self.assertEqual(lots_with_nought(size, more), expected)

    def test_few_lots(self):
        for size in reckon.SIZES:
            for many in range(size + 1):
                there = len(reckon.lots_of(size, many))
                if there <= 300:
                    self.assertIsNone(check_few_lots(size, many))
                else:
                    with self.assertRaises(TooMany) as caught:
                        check_few_lots(size, many)
                    self.assertEqual(caught.exception.given, there)


class MovedTest(unittest.TestCase):
    def test_all_lots(self):
        for size in reckon.SIZES:
            for lot in reckon.lots(size):
                for step in range(size):
                    expected = tuple(at for at in range(size) if (at - step) % size in lot)
                    self.assertEqual(lot_moved(size, lot, step), expected)

    def test_none_one_and_all(self):
        for size in reckon.SIZES:
            for step in range(size):
                self.assertEqual(lot_moved(size, (), step), ())
                self.assertEqual(lot_moved(size, tuple(range(size)), step), tuple(range(size)))
                for at in range(size):
                    self.assertEqual(lot_moved(size, (at,), step), ((at + step) % size,))

    def test_beside_moves_alike(self):
        for size in range(2, 8):
            for lot in reckon.lots(size):
                for step in range(size):
                    self.assertEqual(beside(size, lot_moved(size, lot, step)), lot_moved(size, beside(size, lot), step))


class TimesTest(unittest.TestCase):
    def test_all_lots(self):
        for size in reckon.SIZES:
            for unit in reckon.units(size):
                back = next(other for other in range(1, size) if unit * other % size == 1)
                for lot in reckon.lots(size):
                    expected = tuple(at for at in range(size) if at * back % size in lot)
                    self.assertEqual(lot_times(size, lot, unit), expected)

    def test_one_and_one_less_than_the_size(self):
        for size in reckon.SIZES:
            for lot in reckon.lots(size):
                self.assertEqual(lot_times(size, lot, 1), lot)
                self.assertEqual(lot_times(size, lot, size - 1), tuple(sorted(-at % size for at in lot)))

    def test_all_units(self):
        self.assertEqual([[unit for unit in range(1, size) if lot_times(size, (1,), unit) == (unit,)]
                          for size in (2, 3, 5)], [[1], [1, 2], [1, 2, 3, 4]])
        self.assertEqual([lot_times(12, (1, 2, 3), unit) for unit in (1, 5, 7, 11)],
                         [(1, 2, 3), (3, 5, 10), (2, 7, 9), (9, 10, 11)])


class SettlingTest(unittest.TestCase):
    """What [14] says of lots beside, moved and multiplied."""

    def test_beside(self):
        for size in reckon.SIZES:
            for moments, steps in some_pairs(size, 60):
                rank = reckon.rank(size, moments, steps)
                others = rank_of(size, beside(size, moments), beside(size, steps))
                self.assertEqual(len(steps) - rank, size - len(moments) - others)

    def test_as_many_moments_as_waves(self):
        for size in reckon.SIZES:
            chance = random.Random(size)
            for _ in range(40):
                many = chance.randint(0, size)
                moments, steps = [tuple(sorted(chance.sample(range(size), many))) for _ in range(2)]
                expected = reckon.settles(size, moments, steps)
                self.assertIs(settles(size, steps, moments), expected)
                self.assertIs(settles(size, beside(size, moments), beside(size, steps)), expected)

    def test_moved(self):
        for size in reckon.SIZES:
            chance = random.Random(size)
            for moments, steps in some_pairs(size, 60):
                rank = reckon.rank(size, moments, steps)
                by, other = chance.randrange(size), chance.randrange(size)
                self.assertEqual(rank_of(size, lot_moved(size, moments, by), steps), rank)
                self.assertEqual(rank_of(size, moments, lot_moved(size, steps, other)), rank)
                found = rank_of(size, lot_moved(size, moments, by), lot_moved(size, steps, other))
                self.assertEqual(found, rank)

    def test_multiplied(self):
        for size in reckon.SIZES:
            for moments, steps in some_pairs(size, 20):
                for unit in reckon.units(size):
                    rank = reckon.rank(size, tuple(unit * moment % size for moment in moments), steps)
                    self.assertEqual(rank_of(size, lot_times(size, moments, unit), steps), rank)
                    self.assertEqual(rank_of(size, moments, lot_times(size, steps, unit)), rank)
                    self.assertIs(settles(size, lot_times(size, moments, unit), steps), rank == len(steps))
                    self.assertIs(settles(size, moments, lot_times(size, steps, unit)), rank == len(steps))


class RestsTest(unittest.TestCase):
    def test_all_lots(self):
        for size in reckon.SIZES:
            for many in reckon.divisors(size):
                classes = [set(range(rest, size, many)) for rest in range(many)]
                for lot in reckon.lots(size):
                    expected = tuple(len(each.intersection(lot)) for each in classes)
                    self.assertEqual(rests(size, lot, many), expected)
                    self.assertEqual((len(expected), sum(expected)), (many, len(lot)))

    def test_none_one_and_all(self):
        for size in reckon.SIZES:
            for many in reckon.divisors(size):
                self.assertEqual(rests(size, (), many), (0,) * many)
                self.assertEqual(rests(size, tuple(range(size)), many), (size // many,) * many)
                self.assertEqual(rests(size, (size - 1,), many), (0,) * (many - 1) + (1,))
            for lot in reckon.lots(size)[:40]:
                self.assertEqual(rests(size, lot, 1), (len(lot),))
                self.assertEqual(rests(size, lot, size), tuple(int(at in lot) for at in range(size)))

    def test_moved_and_multiplied(self):
        for size in reckon.SIZES:
            for many in reckon.divisors(size):
                for lot in reckon.lots(size)[::7]:
                    found = rests(size, lot, many)
                    behind = rests(size, lot_moved(size, lot, 1), many)
                    self.assertEqual(behind, found[-1:] + found[:-1])
                    for unit in reckon.units(size):
                        multiplied = rests(size, lot_times(size, lot, unit), many)
                        self.assertEqual([multiplied[unit * rest % many] for rest in range(many)], list(found))

    def test_ranks(self):
        for size in reckon.SIZES:
            chance = random.Random(size)
            every = reckon.lots(size)
            for many in reckon.divisors(size):
                for most in range(1, size // many + 1):
                    steps = tuple(sorted(q * (size // many) + s for q in range(many) for s in range(most)))
                    for moments in chance.sample(every, min(len(every), 6)):
                        expected = sum(min(most, count) for count in rests(size, moments, many))
                        self.assertEqual(reckon.rank(size, moments, steps), expected)
                        self.assertEqual(rank_of(size, moments, steps), expected)

    def test_what_settles_all_falls_evenly(self):
        for size in range(2, 8):
            for moments in reckon.lots(size):
                counts = [rests(size, moments, many) for many in reckon.divisors(size)]
                is_even = all(max(row) - min(row) <= 1 for row in counts)
                all_settled = all(
                    reckon.settles(size, moments, steps) for steps in reckon.lots_of(size, len(moments)))
                if size != 6:
                    self.assertIs(is_even, all_settled)
                elif all_settled:
                    self.assertTrue(is_even)


if __name__ == "__main__":
    unittest.main()
