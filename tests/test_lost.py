import random
import unittest
from math import comb

from tests import reckon
from wavespots.few import fewest_waves
from wavespots.lost import lost_signal, survives

MOST_LOTS = 300
PRIMES = (2, 3, 5, 7, 11)
GREAT = range(9, 13)


def counts(size):
    """How many lost moments are gone through."""
    return [many for many in range(size + 1) if comb(size, many) <= MOST_LOTS]


class LostTest(unittest.TestCase):
    def check(self, size, steps, many, expected):
        with self.subTest(size=size, waves=steps, many=many):
            self.assertIs(survives(size, steps, many), expected)
            found = lost_signal(size, steps, many)
            if expected:
                self.assertIsNone(found)
                return
            signal = reckon.read_signal(found)
            self.assertEqual(found, reckon.told_signal(signal))
            self.assertEqual([len(number) for number in signal], [reckon.phi(size)] * size)
            self.assertLessEqual(set(reckon.waves(size, signal)), set(steps))
            self.assertTrue(0 < len(reckon.places(signal)) <= many)

    def check_exactly(self, size, steps, most):
        """These waves survive so many lost moments and no more."""
        for many in counts(size):
            self.check(size, steps, many, many <= most)

    def test_all_lots_of_the_smallest_sizes(self):
        for size in range(2, 6):
            for steps in reckon.lots(size):
                for many in range(size + 1):
                    self.check(size, steps, many, reckon.survives(size, steps, many))

    def test_all_lots_of_small_sizes(self):
        for size in range(2, 9):
            free = reckon.freedoms(size)
            for steps in reckon.lots(size):
                for many in range(size + 1):
                    # the moments left do not settle the waves if some signal has its places within the lost ones
                    expected = all(free[lost, steps] == 0 for lost in reckon.lots_of(size, many))
                    self.check(size, steps, many, expected)

    def test_some_lots_of_greater_sizes(self):
        for size in GREAT:
            chance = random.Random(size)
            every = reckon.lots(size, 1)
            for many in counts(size):
                likely = [lot for lot in every if len(lot) <= size - many]
                for steps in chance.sample(likely, min(len(likely), 5)) + [chance.choice(every)]:
                    self.check(size, steps, many, reckon.survives(size, steps, many))

    def test_waves_that_follow_one_another(self):
        for size in reckon.SIZES:
            for length in range(1, size + 1):
                for start in (0, size - 1):
                    steps = tuple(sorted((start + at) % size for at in range(length)))
                    self.check_exactly(size, steps, size - length)

    def test_prime_sizes(self):
        for size in PRIMES:
            chance = random.Random(size)
            every = reckon.lots(size, 1)
            for steps in every if size < 11 else chance.sample(every, 25):
                self.check_exactly(size, steps, size - len(steps))

    def test_cosets(self):
        # their sparsest signals are the coset signals
        for size in reckon.SIZES:
            for divisor in reckon.divisors(size):
                for start in range(size // divisor):
                    steps = tuple(range(start, size, size // divisor))
                    self.assertEqual(len(steps), divisor)
                    self.check_exactly(size, steps, size // divisor - 1)

    def test_two_waves(self):
        # they are alike at as many moments as their difference and the size have in common
        for size in reckon.SIZES:
            for other in range(1, size):
                common = max(count for count in reckon.divisors(size) if other % count == 0)
                self.check_exactly(size, (0, other), size - common - 1)

    def test_at_most_the_size_less_the_waves(self):
        for size in reckon.SIZES:
            chance = random.Random(size)
            every = reckon.lots(size, 1)
            for steps in every if size < 9 else chance.sample(every, 60):
                for many in counts(size):
                    if many > size - len(steps):
                        self.assertIs(survives(size, steps, many), False)

    def test_no_waves_survive_all(self):
        for size in reckon.SIZES:
            self.check_exactly(size, (), size)

    def test_no_lost_moments_and_all(self):
        for size in reckon.SIZES:
            chance = random.Random(size)
            every = reckon.lots(size, 1)
            for steps in [(0,), (size - 1,), tuple(range(size))] + [chance.choice(every) for _ in range(5)]:
                self.check(size, steps, 0, True)
                self.check(size, steps, size, False)

    def test_all_waves_and_one(self):
        for size in reckon.SIZES:
            self.check_exactly(size, tuple(range(size)), 0)
            for step in range(size):
                self.check_exactly(size, (step,), size - 1)

    def test_the_table_turned_over(self):
        for size in reckon.SIZES:
            chance = random.Random(size)
            every = reckon.lots(size, 1)
            for steps in every if size < 7 else chance.sample(every, 12):
                least = fewest_waves(size, steps)
                for many in counts(size):
                    self.assertIs(survives(size, steps, many), least > many)

    def test_moved_and_multiplied_alike(self):
        for size in reckon.SIZES:
            chance = random.Random(size)
            for _ in range(6):
                steps = tuple(sorted(chance.sample(range(size), chance.randint(1, size))))
                by, unit = chance.randrange(size), chance.choice(reckon.units(size))
                for many in counts(size):
                    expected = survives(size, steps, many)
                    moved = tuple(sorted((step + by) % size for step in steps))
                    multiplied = tuple(sorted(step * unit % size for step in steps))
                    self.assertIs(survives(size, moved, many), expected)
                    self.assertIs(survives(size, multiplied, many), expected)


if __name__ == "__main__":
    unittest.main()
