import random
import unittest
from fractions import Fraction

from tests import reckon
from wavespots.numbers import is_number, nought, root
from wavespots.signals import (
    energy, is_signal, moved, parts_of, places_of, round_product, signal_from, turned, wave, waves_of,
)

GREAT = 10 ** 250


def spike(size, at, number):
    return tuple(number if moment == at else reckon.nought(size) for moment in range(size))


def samples(size):
    """Signals of the reckoning: the edges, with few waves, with few places, and with any values."""
    chance = random.Random(size)
    yield (reckon.nought(size),) * size
    yield tuple(reckon.power(size, step) for step in range(size))
    yield spike(size, size - 1, reckon.power(size, 1))
    for many in (1, 2, size - 1, size):
        yield reckon.some_signal(chance, size, chance.sample(range(size), many), 3)
    yield spike(size, 0, reckon.some_number(chance, size, GREAT))
    yield tuple(reckon.some_number(chance, size, 10 ** 40) for _ in range(size))
    for many in (1, size // 2):
        numbers = {moment: reckon.some_number(chance, size, 9) for moment in chance.sample(range(size), many)}
        yield tuple(numbers.get(moment, reckon.nought(size)) for moment in range(size))


def pairs(size):
    signals = list(samples(size))
    return list(zip(signals, signals[1:] + signals[:1])) + list(zip(signals, signals[3:]))


def told(signal):
    return reckon.told_signal(signal)


class PartsTest(unittest.TestCase):
    def test_parts(self):
        for size in reckon.SIZES:
            for signal in samples(size):
                parts = reckon.parts_of(size, signal)
                self.assertEqual(parts_of(size, told(signal)), told(parts))
                self.assertEqual(places_of(size, told(signal)), reckon.places(signal))
                self.assertEqual(waves_of(size, told(signal)), reckon.places(parts))

    def test_there_and_back(self):
        for size in reckon.SIZES:
            for signal in samples(size):
                self.assertEqual(signal_from(size, parts_of(size, told(signal))), told(signal))
                self.assertEqual(parts_of(size, signal_from(size, told(signal))), told(signal))

    def test_values(self):
        for size in reckon.SIZES:
            for parts in samples(size):
                values = reckon.values_of(size, dict(enumerate(parts)))
                self.assertEqual(signal_from(size, told(parts)), told(values))

    def test_parts_of_single_waves_and_spikes(self):
        for size in reckon.SIZES:
            one, nil = reckon.power(size, 0), reckon.nought(size)
            for index in range(size):
                parts = tuple(one if step == index else nil for step in range(size))
                self.assertEqual(parts_of(size, wave(size, index)), told(parts))
                self.assertEqual(signal_from(size, told(parts)), wave(size, index))
                turns = [reckon.scaled(reckon.power(size, -index * step), Fraction(1, size)) for step in range(size)]
                self.assertEqual(parts_of(size, told(spike(size, index, one))), told(turns))

    def test_by_rounded_numbers(self):
        for size in reckon.SIZES:
            signal = reckon.some_signal(random.Random(size), size, range(size), 3)
            parts = reckon.read_signal(parts_of(size, told(signal)))
            for moment in range(size):
                value = sum(reckon.approximate(size, parts[step]) * reckon.approximate(size, reckon.power(size, moment * step))
                            for step in range(size))
                self.assertLess(abs(value - reckon.approximate(size, signal[moment])), 1e-8)

    def test_waves(self):
        for size in reckon.SIZES:
            for step in range(size):
                values = tuple(reckon.power(size, moment * step) for moment in range(size))
                self.assertEqual(wave(size, step), told(values))
                self.assertEqual(waves_of(size, wave(size, step)), (step,))
                self.assertEqual(places_of(size, wave(size, step)), tuple(range(size)))
                self.assertEqual(parts_of(size, wave(size, step))[step], root(size, 0))

    def test_nought(self):
        for size in reckon.SIZES:
            signal = (nought(size),) * size
            self.assertEqual((parts_of(size, signal), signal_from(size, signal)), (signal, signal))
            self.assertEqual((places_of(size, signal), waves_of(size, signal)), ((), ()))

    def test_all_lots_of_places_and_waves(self):
        for size in range(2, 9):
            chance = random.Random(size)
            for lot in reckon.lots(size):
                numbers = {at: reckon.some_number(chance, size, 2) for at in lot}
                row = told(tuple(numbers.get(at, reckon.nought(size)) for at in range(size)))
                self.assertEqual(places_of(size, row), lot)
                self.assertEqual(waves_of(size, signal_from(size, row)), lot)

    def test_is_signal(self):
        for size in reckon.SIZES:
            for signal in samples(size):
                right = told(signal)
                self.assertIs(is_signal(size, right), True)
                self.assertIs(is_signal(size, parts_of(size, right)), True)
                for wrong in (right[:-1], right + right[:1], list(right), right[:-1] + (None,), None, ()):
                    self.assertIs(is_signal(size, wrong), False)
            for other in reckon.SIZES:
                if other != size:
                    self.assertIs(is_signal(other, wave(size, 1)), False)


class MovedTest(unittest.TestCase):
    def test_values_and_parts(self):
        for size in reckon.SIZES:
            for signal in samples(size):
                parts = reckon.parts_of(size, signal)
                for step in range(size):
                    found = moved(size, told(signal), step)
                    self.assertEqual(found, told([signal[moment - step] for moment in range(size)]))
                    expected = [reckon.turned_sum(size, [part], [-step * k]) for k, part in enumerate(parts)]
                    self.assertEqual(reckon.parts_of(size, reckon.read_signal(found)), tuple(expected))

    def test_spikes_and_waves(self):
        for size in reckon.SIZES:
            one = reckon.power(size, 0)
            for at in range(size):
                for step in range(size):
                    found = moved(size, told(spike(size, at, one)), step)
                    self.assertEqual(found, told(spike(size, (at + step) % size, one)))
                    self.assertEqual(parts_of(size, moved(size, wave(size, at), step))[at], root(size, -step * at % size))

    def test_one_behind_the_other(self):
        for size in reckon.SIZES:
            for signal in samples(size):
                there = moved(size, told(signal), 1)
                self.assertEqual(moved(size, there, size - 1), told(signal))
                self.assertEqual(moved(size, told(signal), 0), told(signal))


class TurnedTest(unittest.TestCase):
    def test_values_and_parts(self):
        for size in reckon.SIZES:
            for signal in samples(size):
                parts = reckon.parts_of(size, signal)
                for step in range(size):
                    found = turned(size, told(signal), step)
                    expected = [reckon.turned_sum(size, [value], [step * at]) for at, value in enumerate(signal)]
                    self.assertEqual(found, told(expected))
                    self.assertEqual(parts_of(size, found), told([parts[k - step] for k in range(size)]))

    def test_waves(self):
        for size in reckon.SIZES:
            for step in range(size):
                for other in range(size):
                    self.assertEqual(turned(size, wave(size, step), other), wave(size, (step + other) % size))

    def test_there_and_back(self):
        for size in reckon.SIZES:
            for signal in samples(size):
                self.assertEqual(turned(size, turned(size, told(signal), 1), size - 1), told(signal))
                self.assertEqual(turned(size, told(signal), 0), told(signal))


class RoundProductTest(unittest.TestCase):
    def test_values(self):
        for size in reckon.SIZES:
            for signal, other in pairs(size):
                expected = told(reckon.round_product(size, signal, other))
                self.assertEqual(round_product(size, told(signal), told(other)), expected)

    def test_parts(self):
        for size in reckon.SIZES:
            for signal, other in pairs(size):
                found = reckon.read_signal(round_product(size, told(signal), told(other)))
                products = [reckon.times(size, one, two) for one, two in
                            zip(reckon.parts_of(size, signal), reckon.parts_of(size, other))]
                self.assertEqual(reckon.parts_of(size, found), tuple(reckon.scaled(part, size) for part in products))

    def test_either_way_round(self):
        for size in reckon.SIZES:
            for signal, other in pairs(size):
                one, two = told(signal), told(other)
                self.assertEqual(round_product(size, one, two), round_product(size, two, one))

    def test_a_spike_moves(self):
        for size in reckon.SIZES:
            for signal in samples(size):
                for at in range(size):
                    one = told(spike(size, at, reckon.power(size, 0)))
                    self.assertEqual(round_product(size, one, told(signal)), moved(size, told(signal), at))

    def test_waves(self):
        for size in reckon.SIZES:
            for step in range(size):
                for other in range(size):
                    found = round_product(size, wave(size, step), wave(size, other))
                    values = [reckon.scaled(reckon.power(size, step * at), size * (step == other)) for at in range(size)]
                    self.assertEqual(found, told(values))

    def test_nought(self):
        for size in reckon.SIZES:
            nil = (nought(size),) * size
            for signal in samples(size):
                self.assertEqual(round_product(size, told(signal), nil), nil)
                self.assertEqual(round_product(size, nil, told(signal)), nil)


class EnergyTest(unittest.TestCase):
    def test_energy_and_that_of_the_parts(self):
        for size in reckon.SIZES:
            for signal in samples(size):
                found = energy(size, told(signal))
                self.assertEqual(found, reckon.told(reckon.energy(size, signal)))
                of_parts = reckon.energy(size, reckon.parts_of(size, signal))
                self.assertEqual(found, reckon.told(reckon.scaled(of_parts, size)))
                self.assertEqual(reckon.read(energy(size, parts_of(size, told(signal)))), of_parts)

    def test_it_is_real_and_above_nought(self):
        for size in reckon.SIZES:
            for signal in samples(size):
                value = reckon.approximate(size, reckon.read(energy(size, told(signal))))
                self.assertLessEqual(abs(value.imag), 1e-9 * max(abs(value), 1))
                self.assertEqual(value.real > 0, any(map(any, signal)))

    def test_moved_and_turned_alike(self):
        for size in reckon.SIZES:
            for signal in samples(size):
                found = energy(size, told(signal))
                for step in (1, size - 1):
                    self.assertEqual(energy(size, moved(size, told(signal), step)), found)
                    self.assertEqual(energy(size, turned(size, told(signal), step)), found)

    def test_nought_spikes_and_waves(self):
        for size in reckon.SIZES:
            self.assertEqual(energy(size, (nought(size),) * size), nought(size))
            for index in range(size):
                self.assertEqual(energy(size, wave(size, index)), ((size, 1),) + nought(size)[1:])
                one = told(spike(size, index, reckon.scaled(reckon.power(size, 1), Fraction(-3, 2))))
                self.assertEqual(energy(size, one), ((9, 4),) + nought(size)[1:])


class GreatFractionsTest(unittest.TestCase):
    """All values with hundreds of figures above and below."""

    def test_all(self):
        for size in (2, 3, 4, 6, 12):
            chance = random.Random(size)
            one, two = [tuple(reckon.some_number(chance, size, 10 ** 200) for _ in range(size)) for _ in range(2)]
            self.assertEqual(parts_of(size, told(one)), told(reckon.parts_of(size, one)))
            self.assertEqual(signal_from(size, told(one)), told(reckon.values_of(size, dict(enumerate(one)))))
            self.assertEqual(energy(size, told(one)), reckon.told(reckon.energy(size, one)))
            turns = [reckon.turned_sum(size, [value], [at]) for at, value in enumerate(one)]
            self.assertEqual(turned(size, told(one), 1), told(turns))
            if size < 12:
                self.assertEqual(round_product(size, told(one), told(two)), told(reckon.round_product(size, one, two)))

    def test_a_prime_size(self):
        chance = random.Random(7)
        one = tuple(reckon.some_number(chance, 7, 10 ** 200) for _ in range(7))
        parts = parts_of(7, told(one))
        self.assertEqual(signal_from(7, parts), told(one))
        self.assertEqual(waves_of(7, told(one)), tuple(range(7)))
        self.assertEqual(moved(7, told(one), 3), told(one[4:] + one[:4]))

    def test_almost_nought(self):
        for size in reckon.SIZES:
            one, nil = reckon.power(size, 0), reckon.nought(size)
            little = reckon.scaled(one, Fraction(1, 10 ** 390))
            values = [reckon.add(value, little if at == 1 else nil) for at, value in enumerate([one] * size)]
            self.assertEqual(waves_of(size, told(values)), tuple(range(size)))
            self.assertEqual(places_of(size, told(spike(size, 1, little))), (1,))

    def test_what_was_returned_may_be_passed(self):
        chance = random.Random(4)
        one = told(tuple(reckon.some_number(chance, 4, GREAT) for _ in range(4)))
        square = round_product(4, one, one)
        self.assertTrue(is_signal(4, square))
        self.assertEqual(signal_from(4, parts_of(4, square)), square)
        self.assertTrue(is_number(4, energy(4, square)))
        self.assertEqual(energy(4, turned(4, square, 3)), energy(4, moved(4, square, 1)))


if __name__ == "__main__":
    unittest.main()
