"""What [17] to [20] say of the signals, parts, places, waves, energies and lots that the modules tell."""

import random
import unittest
from fractions import Fraction

from tests import reckon
from wavespots.few import coset_signal, fewest_waves, is_coset_signal, least_by_line, signal_on
from wavespots.lots import beside, lot_moved, lot_times
from wavespots.lost import lost_signal
from wavespots.numbers import nought, number_from, root, times
from wavespots.pairs import (
    even_pair_of, has_first_sign, has_second_sign, is_even_pair, partner_of, parts_in, zero_steps,
)
from wavespots.settling import settles
from wavespots.signals import energy, moved, parts_of, places_of, round_product, signal_from, turned, waves_of

PRIMES = (2, 3, 5, 7, 11)


def some_lots(size, many, least=1):
    every = reckon.lots(size, least)
    return every if len(every) <= many else random.Random(size).sample(every, many)


def coset_signals(size):
    return [(divisor, start, step, coset_signal(size, divisor, start, step))
            for divisor in reckon.divisors(size) for start in range(divisor) for step in range(size)]


def told_number(chance, size, limit):
    return reckon.told(reckon.some_number(chance, size, limit))


def signal_within(chance, size, steps):
    """A signal with just these waves, made from its parts."""
    parts = {step: told_number(chance, size, 4) for step in steps}
    return signal_from(size, tuple(parts.get(step, nought(size)) for step in range(size)))


def multiple(size, signal, number):
    return tuple(times(size, value, number) for value in signal)


def kept(size, signal, moments):
    """The signal with noughts beside the moments."""
    return tuple(value if at in moments else nought(size) for at, value in enumerate(signal))


class CosetSignalsTest(unittest.TestCase):
    """[17]"""

    def test_places_and_waves(self):
        for size in reckon.SIZES:
            for divisor, start, step, signal in coset_signals(size):
                self.assertEqual(places_of(size, signal), tuple(range(start, size, divisor)))
                expected = tuple(range(step % (size // divisor), size, size // divisor))
                self.assertEqual(waves_of(size, signal), expected)
                self.assertEqual(places_of(size, parts_of(size, signal)), expected)

    def test_moved(self):
        for size in reckon.SIZES:
            for divisor, start, step, signal in coset_signals(size):
                for by in (1, size - 1):
                    found = moved(size, signal, by)
                    self.assertIs(is_coset_signal(size, found), True)
                    likewise = coset_signal(size, divisor, (start + by) % divisor, step)
                    self.assertEqual(found, multiple(size, likewise, root(size, -by * step % size)))

    def test_turned(self):
        for size in reckon.SIZES:
            for divisor, start, step, signal in coset_signals(size):
                for by in (1, size - 1):
                    found = turned(size, signal, by)
                    self.assertIs(is_coset_signal(size, found), True)
                    self.assertEqual(found, coset_signal(size, divisor, start, (step + by) % size))

    def test_times_a_number(self):
        for size in reckon.SIZES:
            chance = random.Random(size)
            for _, _, _, signal in coset_signals(size):
                for limit in (3, 10 ** 200):
                    found = multiple(size, signal, told_number(chance, size, limit))
                    self.assertIs(is_coset_signal(size, found), True)
                self.assertIs(is_coset_signal(size, multiple(size, signal, nought(size))), False)

    def test_round_products(self):
        for size in reckon.SIZES:
            chance = random.Random(size)
            every = coset_signals(size)
            for _ in range(40):
                first, second = chance.choice(every)[3], chance.choice(every)[3]
                found = round_product(size, first, second)
                both = tuple(step for step in waves_of(size, first) if step in waves_of(size, second))
                self.assertEqual(waves_of(size, found), both)
                self.assertIs(is_coset_signal(size, found), both != ())

    def test_their_parts_as_values(self):
        for size in reckon.SIZES:
            for _, _, _, signal in coset_signals(size):
                self.assertIs(is_coset_signal(size, parts_of(size, signal)), True)
                self.assertIs(is_coset_signal(size, signal_from(size, signal)), True)

    def test_energy(self):
        for size in reckon.SIZES:
            for divisor, _, _, signal in coset_signals(size):
                self.assertEqual(energy(size, signal), ((size // divisor, 1),) + nought(size)[1:])

    def test_the_product_of_the_numbers(self):
        for size in reckon.SIZES:
            chance = random.Random(size)
            for steps in some_lots(size, 20):
                signal = signal_within(chance, size, steps)
                some = [signal, turned(size, signal, 1), parts_of(size, signal)]
                some += [kept(size, signal, lot) for lot in some_lots(size, 4)]
                for found in some:
                    if places_of(size, found):
                        together = len(places_of(size, found)) * len(waves_of(size, found))
                        self.assertGreaterEqual(together, size)
                        self.assertIs(is_coset_signal(size, found), together == size)


class LineTest(unittest.TestCase):
    """[18]"""

    def check(self, size, signal):
        places, steps = places_of(size, signal), waves_of(size, signal)
        self.assertGreaterEqual(len(steps), least_by_line(size, len(places)))
        self.assertGreaterEqual(len(places), least_by_line(size, len(steps)))
        if size in PRIMES:
            self.assertGreater(len(places) + len(steps), size)

    def test_signals_with_few_places(self):
        for size in reckon.SIZES:
            chance = random.Random(size)
            for moments in some_lots(size, 15):
                signal = tuple(told_number(chance, size, 2) if at in moments else nought(size) for at in range(size))
                self.assertEqual(places_of(size, signal), moments)
                self.assertGreaterEqual(len(waves_of(size, signal)), fewest_waves(size, moments))
                self.check(size, signal)
                self.check(size, moved(size, signal, 1))
                self.check(size, turned(size, signal, size - 1))

    def test_lost_signals(self):
        for size in reckon.SIZES:
            for steps in some_lots(size, 15):
                for many in (1, 2, 3, size - 2, size - 1):
                    found = lost_signal(size, steps, many) if 0 <= many <= size else None
                    if found is not None:
                        self.check(size, found)

    def test_sums_of_coset_signals(self):
        for size in reckon.SIZES:
            chance = random.Random(size)
            every = coset_signals(size)
            for _ in range(15):
                first, second = chance.choice(every)[3], chance.choice(every)[3]
                pairs = zip(reckon.read_signal(first), reckon.read_signal(second))
                signal = reckon.told_signal([reckon.add(one, two) for one, two in pairs])
                if places_of(size, signal):
                    self.check(size, signal)

    def test_lots_moved_and_multiplied(self):
        for size in reckon.SIZES:
            chance = random.Random(size)
            for moments in some_lots(size, 8):
                least = fewest_waves(size, moments)
                self.assertEqual(fewest_waves(size, lot_moved(size, moments, chance.randrange(size))), least)
                self.assertEqual(fewest_waves(size, lot_times(size, moments, chance.choice(reckon.units(size)))), least)


class PlacesAndWavesTest(unittest.TestCase):
    """[19]"""

    def test_signals_have_their_places_and_waves(self):
        for size in reckon.SIZES:
            chance = random.Random(size)
            for steps in some_lots(size, 10):
                signal = kept(size, signal_within(chance, size, steps), some_lots(size, 3)[-1])
                places, found = places_of(size, signal), waves_of(size, signal)
                if places:
                    some = signal_on(size, places, found)
                    self.assertEqual((places_of(size, some), waves_of(size, some)), (places, found))

    def test_moved_turned_and_multiplied(self):
        for size in reckon.SIZES:
            chance = random.Random(size)
            for steps in some_lots(size, 10):
                signal = signal_within(chance, size, steps)
                places = places_of(size, signal)
                self.assertEqual(waves_of(size, signal), steps)
                by, unit = chance.randrange(size), chance.choice(reckon.units(size))
                there = moved(size, signal, by)
                self.assertEqual((places_of(size, there), waves_of(size, there)), (lot_moved(size, places, by), steps))
                there = turned(size, signal, by)
                self.assertEqual((places_of(size, there), waves_of(size, there)), (places, lot_moved(size, steps, by)))
                there = tuple(signal[unit * at % size] for at in range(size))
                self.assertEqual(waves_of(size, there), lot_times(size, steps, unit))
                self.assertEqual(lot_times(size, places_of(size, there), unit), places)

    def test_lots_moved_and_multiplied(self):
        for size in reckon.SIZES:
            chance = random.Random(size)
            for moments in some_lots(size, 8):
                for steps in some_lots(size, 30)[::6]:
                    has_one = signal_on(size, moments, steps) is not None
                    by, unit = chance.randrange(size), chance.choice(reckon.units(size))
                    for other, more in (
                        (lot_moved(size, moments, by), steps), (moments, lot_moved(size, steps, by)), (steps, moments),
                    ):
                        self.assertIs(signal_on(size, other, more) is not None, has_one)
                    first = signal_on(size, lot_times(size, moments, unit), steps) is not None
                    self.assertIs(signal_on(size, moments, lot_times(size, steps, unit)) is not None, first)

    def test_fewest_waves_by_the_moments_beside(self):
        for size in range(2, 9):
            for moments in some_lots(size, 30):
                others = beside(size, moments)
                least = min(len(steps) for steps in reckon.lots(size, 1) if not settles(size, others, steps))
                self.assertEqual(fewest_waves(size, moments), least)
                self.assertLessEqual(least, size + 1 - len(moments))


class EvenPairsTest(unittest.TestCase):
    """[20]"""

    def sees_its_share(self, size, moments, signal):
        share = number_from(size, reckon.told([Fraction(len(moments), size)] + [Fraction(0)] * (size - 1)))
        return energy(size, kept(size, signal, moments)) == times(size, energy(size, signal), share)

    def even_pairs(self, size):
        found = [(moments, even_pair_of(size, moments)) for moments in some_lots(size, 60)]
        return [(moments, steps) for moments, steps in found if steps is not None]

    def test_even_pairs_by_energies(self):
        for size in reckon.SIZES:
            chance = random.Random(size)
            for moments, steps in self.even_pairs(size):
                self.assertIs(is_even_pair(size, moments, steps), True)
                for _ in range(2):
                    self.assertTrue(self.sees_its_share(size, moments, signal_within(chance, size, steps)))

    def test_others_by_energies(self):
        for size in reckon.SIZES:
            for moments in some_lots(size, 6):
                for first, second in reckon.lots_of(size, 2)[::3]:
                    # the share lacks twice the real part of the sum of z^(j d), or of that times z: so both tell all
                    signals = [self.two_waves(size, first, second, root(size, by)) for by in (0, 1)]
                    by_energies = all(self.sees_its_share(size, moments, signal) for signal in signals)
                    self.assertIs(is_even_pair(size, moments, (first, second)), by_energies)

    def two_waves(self, size, first, second, number):
        parts = {first: root(size, 0), second: number}
        return signal_from(size, tuple(parts.get(step, nought(size)) for step in range(size)))

    def test_lots_moved_and_multiplied(self):
        for size in reckon.SIZES:
            chance = random.Random(size)
            pairs = self.even_pairs(size) + list(zip(some_lots(size, 30), some_lots(size, 40)[::-1]))
            for moments, steps in pairs:
                expected = is_even_pair(size, moments, steps)
                by, other, unit = chance.randrange(size), chance.randrange(size), chance.choice(reckon.units(size))
                moved_pair = (lot_moved(size, moments, by), lot_moved(size, steps, other))
                self.assertIs(is_even_pair(size, *moved_pair), expected)
                self.assertIs(is_even_pair(size, lot_times(size, moments, unit), steps), expected)
                self.assertIs(is_even_pair(size, moments, lot_times(size, steps, unit)), expected)

    def test_zero_steps(self):
        for size in reckon.SIZES:
            chance = random.Random(size)
            for moments in some_lots(size, 60):
                found = zero_steps(size, moments)
                self.assertEqual(zero_steps(size, lot_moved(size, moments, chance.randrange(size))), found)
                for unit in reckon.units(size):
                    self.assertEqual(lot_times(size, found, unit), found)
                    self.assertEqual(zero_steps(size, lot_times(size, moments, unit)), found)

    def test_zero_steps_are_no_waves_of_the_ones_there(self):
        for size in reckon.SIZES:
            for moments in some_lots(size, 40):
                ones = kept(size, (root(size, 0),) * size, moments)
                self.assertEqual(beside(size, waves_of(size, ones)), zero_steps(size, moments))

    def test_parts_signs_and_partners(self):
        for size in reckon.SIZES:
            chance = random.Random(size)
            for moments in some_lots(size, 40):
                told = (parts_in(size, moments), has_first_sign(size, moments), has_second_sign(size, moments),
                        partner_of(size, moments) is None, even_pair_of(size, moments) is None)
                for lot in (lot_moved(size, moments, chance.randrange(size)),
                            lot_times(size, moments, chance.choice(reckon.units(size)))):
                    there = (parts_in(size, lot), has_first_sign(size, lot), has_second_sign(size, lot),
                             partner_of(size, lot) is None, even_pair_of(size, lot) is None)
                    self.assertEqual(there, told)


if __name__ == "__main__":
    unittest.main()
