"""[16]: which moments settle each lot of as many waves."""

import random
import unittest
from itertools import combinations
from math import comb

from tests import reckon
from wavespots import errors
from wavespots.certificates import certify_every
from wavespots.every import broken_lot, is_even, settles_all
from wavespots.lots import beside, lot_moved, lot_times, rests
from wavespots.settling import rank_of

PRIMES = (2, 3, 5, 7, 11)
POWERS = (2, 3, 4, 5, 7, 8, 9, 11)
OTHERS = (6, 10, 12)
MOST_LOTS = 300


def is_let(size, moments):
    return size in POWERS or comb(size, len(moments)) <= MOST_LOTS


def some_lots(size, many):
    """All lots of the sizes up to 7, drawn ones of the greater, as far as they are let."""
    every = [lot for lot in reckon.lots(size) if is_let(size, lot)]
    return every if size < 8 else random.Random(size).sample(every, min(len(every), many))


class EvenTest(unittest.TestCase):
    def test_all_lots(self):
        for size in reckon.SIZES:
            for moments in reckon.lots(size):
                self.assertIs(is_even(size, moments), reckon.is_even(size, moments))

    def test_by_the_rests(self):
        for size in reckon.SIZES:
            for moments in reckon.lots(size)[::3]:
                counts = [rests(size, moments, count) for count in reckon.divisors(size)]
                self.assertIs(is_even(size, moments), all(max(row) <= min(row) + 1 for row in counts))

    def test_none_one_and_all(self):
        for size in reckon.SIZES:
            self.assertIs(is_even(size, ()), True)
            self.assertIs(is_even(size, tuple(range(size))), True)
            for moment in range(size):
                self.assertIs(is_even(size, (moment,)), True)
                self.assertIs(is_even(size, beside(size, (moment,))), True)

    def test_primes(self):
        for size in PRIMES:
            self.assertTrue(all(is_even(size, moments) for moments in reckon.lots(size)))

    def test_two_moments(self):
        # they are uneven if they leave the same rest by a divisor above 1
        for size in reckon.SIZES:
            for one, other in reckon.lots_of(size, 2):
                alike = any((other - one) % count == 0 for count in reckon.divisors(size)[1:])
                self.assertIs(is_even(size, (one, other)), not alike)


class EveryTest(unittest.TestCase):
    def check(self, size, moments, expected):
        with self.subTest(size=size, moments=moments):
            self.assertIs(settles_all(size, moments), expected)
            found = broken_lot(size, moments)
            if expected:
                self.assertIsNone(found)
                return
            self.assertIn(found, reckon.lots_of(size, len(moments)))
            self.assertFalse(reckon.settles(size, moments, found))

    def test_each_lot_tried(self):
        for size in range(2, 11):
            for moments in some_lots(size, 60):
                self.check(size, moments, reckon.settles_all(size, moments))

    def test_each_lot_tried_of_the_greatest_sizes(self):
        for size in (11, 12):
            few = [lot for lot in some_lots(size, 400) if comb(size, len(lot)) < 100]
            for moments in few[:12]:
                self.check(size, moments, reckon.settles_all(size, moments))
        chance = random.Random(12)
        for many in (3, 9):
            for moments in chance.sample(reckon.lots_of(12, many), 4):
                self.check(12, moments, reckon.settles_all(12, moments))

    def test_determinants(self):
        for size in range(2, 7):
            for moments in reckon.lots(size):
                lots = reckon.lots_of(size, len(moments))
                self.check(size, moments, all(any(reckon.determinant(size, moments, lot)) for lot in lots))

    def test_what_settles_all_falls_evenly(self):
        for size in reckon.SIZES:
            for moments in some_lots(size, 60):
                if settles_all(size, moments):
                    self.assertTrue(reckon.is_even(size, moments))
                if not reckon.is_even(size, moments):
                    self.check(size, moments, False)

    def test_powers_of_primes(self):
        for size in POWERS:
            for moments in reckon.lots(size):
                self.check(size, moments, reckon.is_even(size, moments))

    def test_primes(self):
        for size in PRIMES:
            for moments in reckon.lots(size):
                self.check(size, moments, True)

    def even_ones(self, size, most):
        """Those with 0 in them: the others are these moved."""
        return [lot for lot in reckon.lots(size) if 0 in lot[:1] and len(lot) <= most and reckon.is_even(size, lot)]

    def test_even_ones_of_other_sizes(self):
        # of six all that fall evenly settle all, of ten not all with four or six
        broken = []
        for size, most in ((6, 6), (10, 5), (12, 2)):
            for moments in self.even_ones(size, most):
                expected = reckon.settles_all(size, moments)
                self.check(size, moments, expected)
                self.check(size, beside(size, moments), expected)
                if not expected:
                    broken.append((size, len(moments)))
        self.assertEqual(sorted(set(broken)), [(10, 4)])

    def test_even_threes_of_twelve(self):
        threes = [lot for lot in self.even_ones(12, 3) if len(lot) == 3]
        for moments in random.Random(12).sample(threes, 6):
            self.check(12, moments, reckon.settles_all(12, moments))

    def test_moments_one_behind_the_other(self):
        for size in reckon.SIZES:
            for many in range(size + 1):
                for start in (0, 1, size - 1):
                    moments = tuple(sorted((start + at) % size for at in range(many)))
                    if is_let(size, moments):
                        self.check(size, moments, True)

    def test_beside_moved_and_multiplied(self):
        for size in reckon.SIZES:
            chance = random.Random(size)
            for moments in some_lots(size, 25):
                expected = settles_all(size, moments)
                self.check(size, beside(size, moments), expected)
                self.check(size, lot_moved(size, moments, chance.randrange(size)), expected)
                self.check(size, lot_times(size, moments, chance.choice(reckon.units(size))), expected)

    def test_none_one_and_all(self):
        for size in reckon.SIZES:
            self.check(size, (), True)
            self.check(size, tuple(range(size)), True)
            for moment in range(size):
                self.check(size, (moment,), True)
                self.check(size, beside(size, (moment,)), True)

    def test_ranks_by_the_rests(self):
        # the lots that show that uneven moments do not settle all
        for size in reckon.SIZES:
            chance = random.Random(size)
            for moments in chance.sample(reckon.lots(size), min(2 ** size, 25)):
                for count in reckon.divisors(size):
                    counts = [len([moment for moment in moments if moment % count == rest]) for rest in range(count)]
                    for most in range(1, size // count + 1):
                        by = chance.randrange(size)
                        steps = tuple(sorted((q * (size // count) + s + by) % size
                                             for q in range(count) for s in range(most)))
                        expected = sum(min(most, number) for number in counts)
                        self.assertEqual(rank_of(size, moments, steps), expected)


class TooManyTest(unittest.TestCase):
    def test_all_sizes(self):
        refused = []
        for size in reckon.SIZES:
            for many in range(size + 1):
                if size not in POWERS and comb(size, many) > MOST_LOTS:
                    refused.append((size, many, comb(size, many)))
        self.assertEqual(refused, [(12, 4, 495), (12, 5, 792), (12, 6, 924), (12, 7, 792), (12, 8, 495)])

    def test_whatever_the_moments_are(self):
        for many in range(4, 9):
            lots = reckon.lots_of(12, many)
            for moments in [lots[0], lots[-1], tuple(range(0, 12, 2))[:many]] + lots[::9]:
                if len(moments) == many:
                    self.check_too_many(moments, len(lots))

    def check_too_many(self, moments, there):
        for function in (settles_all, broken_lot):
            with self.subTest(function=function.__name__, moments=moments):
                with self.assertRaises(errors.TooMany) as caught:
                    function(12, moments)
                self.assertIs(type(caught.exception), errors.TooMany)
                self.assertEqual(caught.exception.given, there)
        self.assertIs(is_even(12, moments), reckon.is_even(12, moments))

    def test_just_below(self):
        self.assertEqual([comb(12, 3), comb(12, 9), comb(10, 5), comb(6, 3)], [220, 220, 252, 20])
        for size, many in ((12, 3), (12, 9), (10, 5), (10, 4), (6, 3)):
            lots = list(combinations(range(size), many))
            for moments in (lots[0], lots[-1], lots[7]):
                found = broken_lot(size, moments)
                self.assertIs(settles_all(size, moments), found is None)

    def test_never_for_powers_of_primes(self):
        self.assertEqual([comb(11, many) for many in range(4, 8)], [330, 462, 462, 330])
        for size in POWERS:
            for many in range(size + 1):
                for moments in reckon.lots_of(size, many)[::7]:
                    self.assertIs(settles_all(size, moments), reckon.is_even(size, moments))
                    self.assertIs(broken_lot(size, moments) is None, reckon.is_even(size, moments))

    def test_last(self):
        for function in (settles_all, broken_lot, certify_every):
            for arguments, error in (
                ((13, (0, 1, 2, 3)), errors.InvalidSize), ((12, (0, 1, 2, 12)), errors.InvalidLot),
                ((12, [0, 1, 2, 3]), errors.InvalidLot), ((12, (0, 1, 3, 2)), errors.InvalidLot),
                ((12, (0, True, 2, 3)), errors.InvalidLot), ((12, (0, 1, 2, 3)), errors.TooMany),
            ):
                with self.assertRaises(errors.WaveError) as caught:
                    function(*arguments)
                self.assertIs(type(caught.exception), error)


if __name__ == "__main__":
    unittest.main()
