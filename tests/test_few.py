import random
import unittest
from fractions import Fraction
from itertools import product

from tests import reckon
from wavespots.few import coset_signal, fewest_waves, is_coset_signal, least_by_line, signal_on
from wavespots.signals import places_of, waves_of

PRIMES = (2, 3, 5, 7, 11)
SMALL = range(2, 9)
GREAT = range(9, 13)


def cosets(size):
    """All divisors, starts and steps, and the values that [17] tells for them."""
    for divisor in reckon.divisors(size):
        for start in range(divisor):
            for step in range(size):
                values = tuple(
                    reckon.power(size, step * moment) if moment % divisor == start else reckon.nought(size)
                    for moment in range(size)
                )
                yield divisor, start, step, values


def is_multiple(size, signal, other):
    """Whether the signal is a number, not nought, times the other one, whose places are known by ones."""
    if reckon.places(signal) != reckon.places(other):
        return False
    first = reckon.places(other)[0]
    return all(
        reckon.times(size, signal[at], other[first]) == reckon.times(size, signal[first], other[at])
        for at in range(size)
    )


def is_one(size, signal):
    """Whether the signal is a number, not nought, times some coset signal, all of them tried."""
    if not any(map(any, signal)):
        return False
    return any(is_multiple(size, signal, values) for _, _, _, values in cosets(size))


class CosetSignalTest(unittest.TestCase):
    def test_values_places_and_waves(self):
        for size in reckon.SIZES:
            for divisor, start, step, values in cosets(size):
                with self.subTest(size=size, divisor=divisor, start=start, step=step):
                    made = coset_signal(size, divisor, start, step)
                    self.assertEqual(made, reckon.told_signal(values))
                    steps = tuple(k for k in range(size) if (k - step) % (size // divisor) == 0)
                    self.assertEqual((len(places_of(size, made)), len(steps)), (size // divisor, divisor))
                    self.assertEqual(reckon.waves(size, values), steps)
                    self.assertEqual(waves_of(size, made), steps)

    def test_multiples_are_ones(self):
        for size in reckon.SIZES:
            chance = random.Random(size)
            for _, _, _, values in cosets(size):
                number = reckon.some_number(chance, size, 5)
                signal = tuple(reckon.times(size, number, value) for value in values)
                self.assertIs(is_coset_signal(size, reckon.told_signal(signal)), True)

    def test_one_value_altered(self):
        for size in reckon.SIZES:
            chance = random.Random(size)
            for _, _, _, values in list(cosets(size))[::5]:
                altered = list(values)
                at = chance.randrange(size)
                altered[at] = reckon.add(altered[at], reckon.some_number(chance, size, 3))
                expected = is_one(size, tuple(altered))
                self.assertIs(is_coset_signal(size, reckon.told_signal(altered)), expected)

    def test_all_signals_of_a_few_values(self):
        for size, steps in ((2, (0,)), (3, (0, 1, 2)), (4, (0, 1))):
            roots = [reckon.power(size, step) for step in steps]
            choices = [reckon.nought(size), *roots, reckon.add(roots[0], roots[0])]
            choices.append(tuple(-part for part in roots[0]))
            for signal in product(choices, repeat=size):
                told = reckon.told_signal(signal)
                self.assertIs(is_coset_signal(size, told), is_one(size, signal))

    def test_signals_of_a_few_waves(self):
        for size in reckon.SIZES:
            chance = random.Random(size)
            for many in (1, 2, 3):
                lots = reckon.lots_of(size, min(many, size))
                for steps in chance.sample(lots, min(len(lots), 3)):
                    signal = reckon.some_signal(chance, size, steps, 2)
                    told = reckon.told_signal(signal)
                    self.assertIs(is_coset_signal(size, told), is_one(size, signal))
                    self.assertGreaterEqual(len(reckon.places(signal)) * len(steps), size)

    def test_nought(self):
        for size in reckon.SIZES:
            self.assertIs(is_coset_signal(size, reckon.told_signal([reckon.nought(size)] * size)), False)

    def test_great_fractions(self):
        number = (Fraction(10 ** 390 + 7, 3 ** 700), Fraction(-5 ** 500, 2 ** 900))
        for divisor, _, _, values in cosets(6):
            signal = [reckon.times(6, number, value) for value in values]
            self.assertIs(is_coset_signal(6, reckon.told_signal(signal)), True)
            at = reckon.places(signal)[-1]
            signal[at] = reckon.add(signal[at], (Fraction(1, 10 ** 390), Fraction(0)))
            self.assertIs(is_coset_signal(6, reckon.told_signal(signal)), divisor == 6)


class LineTest(unittest.TestCase):
    def test_line(self):
        for size in reckon.SIZES:
            for many in range(1, size + 1):
                low = max(count for count in reckon.divisors(size) if count <= many)
                high = min(count for count in reckon.divisors(size) if count >= many)
                line = Fraction(size * (low + high - many), low * high)
                least = least_by_line(size, many)
                self.assertIs(type(least), int)
                self.assertTrue(line <= least < line + 1)

    def test_divisors_and_primes(self):
        for size in reckon.SIZES:
            for count in reckon.divisors(size):
                self.assertEqual(least_by_line(size, count), size // count)
        for size in PRIMES:
            for many in range(1, size + 1):
                self.assertEqual(least_by_line(size, many), size + 1 - many)

    def test_all_signals_keep_to_it(self):
        for size in range(2, 8):
            for (moments, steps), free in reckon.freedoms(size).items():
                if moments and free > 0:
                    self.assertGreaterEqual(len(steps), least_by_line(size, len(moments)))


class FewestWavesTest(unittest.TestCase):
    def test_all_lots_of_small_sizes(self):
        for size in SMALL:
            free = reckon.freedoms(size)
            every = reckon.lots(size)
            for moments in reckon.lots(size, 1):
                expected = next(len(steps) for steps in every if free[moments, steps] > 0)
                self.assertEqual(fewest_waves(size, moments), expected)
                self.assertLessEqual(least_by_line(size, len(moments)), expected)
                self.assertLessEqual(expected, size + 1 - len(moments))

    def test_some_lots_of_greater_sizes(self):
        for size in GREAT:
            chance = random.Random(size)
            for moments in chance.sample(reckon.lots(size, 1), 25):
                self.assertEqual(fewest_waves(size, moments), reckon.fewest(size, moments))

    def test_cosets_and_neighbours(self):
        for size in reckon.SIZES:
            for divisor in reckon.divisors(size):
                for start in range(divisor):
                    coset = tuple(range(start, size, divisor))
                    self.assertEqual(fewest_waves(size, coset), divisor)
            for many in range(1, size + 1):
                self.assertEqual(fewest_waves(size, tuple(range(many))), size + 1 - many)

    def test_primes(self):
        for size in PRIMES:
            for moments in reckon.lots(size, 1):
                self.assertEqual(fewest_waves(size, moments), size + 1 - len(moments))

    def test_one_moment_and_all(self):
        for size in reckon.SIZES:
            for moment in range(size):
                self.assertEqual(fewest_waves(size, (moment,)), size)
            self.assertEqual(fewest_waves(size, tuple(range(size))), 1)


class SignalOnTest(unittest.TestCase):
    def check(self, size, moments, steps, has_one):
        with self.subTest(size=size, moments=moments, steps=steps):
            found = signal_on(size, moments, steps)
            if not has_one:
                self.assertIsNone(found)
                return
            signal = reckon.read_signal(found)
            self.assertEqual(found, reckon.told_signal(signal))
            self.assertEqual(len(signal), size)
            self.assertEqual(reckon.places(signal), moments)
            self.assertEqual(reckon.waves(size, signal), steps)

    def test_all_pairs_of_small_sizes(self):
        for size in range(2, 7):
            free = reckon.freedoms(size)
            for moments in reckon.lots(size, 1):
                for steps in reckon.lots(size, 1):
                    has_one = reckon.has_signal(lambda one, other: free[one, other], moments, steps)
                    self.check(size, moments, steps, has_one)

    def test_some_pairs_of_greater_sizes(self):
        for size in range(7, 13):
            chance = random.Random(size)
            every = reckon.lots(size, 1)
            for _ in range(60):
                moments, steps = chance.choice(every), chance.choice(every)
                has_one = reckon.has_signal(
                    lambda one, other: reckon.freedom(size, one, other), moments, steps)
                self.check(size, moments, steps, has_one)

    def test_places_and_waves_of_signals(self):
        for size in reckon.SIZES:
            chance = random.Random(size)
            for steps in chance.sample(reckon.lots(size, 1), min(12, size)):
                signal = reckon.some_signal(chance, size, steps, 1)
                self.check(size, reckon.places(signal), steps, True)
            for _, _, _, values in chance.sample(list(cosets(size)), 4):
                self.check(size, reckon.places(values), reckon.waves(size, values), True)

    def test_a_lot_of_a_coset_with_too_few_waves(self):
        for size in (4, 6, 8, 9, 10, 12):
            for divisor in reckon.divisors(size)[1:-1]:
                moments = tuple(range(0, size, divisor))
                steps = tuple(range(0, size, size // divisor))
                self.check(size, moments, steps, True)
                self.check(size, moments, steps[1:], False)
                self.check(size, moments[1:], steps, False)
                # more waves than a coset signal has need another coset of waves whole
                self.check(size, moments, tuple(sorted(steps + (1,))), False)

    def test_primes(self):
        for size in PRIMES:
            chance = random.Random(size)
            every = reckon.lots(size, 1)
            for _ in range(40):
                moments, steps = chance.choice(every), chance.choice(every)
                self.check(size, moments, steps, len(moments) + len(steps) >= size + 1)

    def test_one_and_all(self):
        for size in reckon.SIZES:
            whole = tuple(range(size))
            self.check(size, whole, whole, True)
            for index in range(size):
                self.check(size, whole, (index,), True)
                self.check(size, (index,), whole, True)
                self.check(size, (index,), whole[1:], False)


if __name__ == "__main__":
    unittest.main()
