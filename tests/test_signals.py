import random
import unittest

from tests import reckon
from wavespots.numbers import nought, root
from wavespots.signals import parts_of, places_of, signal_from, wave, waves_of


class SignalsTest(unittest.TestCase):
    def samples(self, size):
        chance = random.Random(size)
        yield tuple(root(size, step) for step in range(size))
        yield (nought(size),) * size
        for many in (1, 2, size - 1, size):
            for limit in (3, 10 ** 40):
                yield reckon.told_signal(reckon.some_signal(chance, size, chance.sample(range(size), many), limit))

    def test_parts(self):
        for size in reckon.SIZES:
            for signal in self.samples(size):
                parts = reckon.parts_of(size, reckon.read_signal(signal))
                self.assertEqual(parts_of(size, signal), reckon.told_signal(parts))
                self.assertEqual(places_of(size, signal), reckon.places(reckon.read_signal(signal)))
                self.assertEqual(waves_of(size, signal), reckon.places(parts))

    def test_there_and_back(self):
        for size in reckon.SIZES:
            for signal in self.samples(size):
                self.assertEqual(signal_from(size, parts_of(size, signal)), signal)
                self.assertEqual(parts_of(size, signal_from(size, signal)), signal)

    def test_values(self):
        for size in reckon.SIZES:
            for parts in self.samples(size):
                values = reckon.values_of(size, dict(enumerate(reckon.read_signal(parts))))
                self.assertEqual(signal_from(size, parts), reckon.told_signal(values))

    def test_waves(self):
        for size in reckon.SIZES:
            for step in range(size):
                values = tuple(reckon.power(size, moment * step) for moment in range(size))
                self.assertEqual(wave(size, step), reckon.told_signal(values))
                self.assertEqual(waves_of(size, wave(size, step)), (step,))
                self.assertEqual(parts_of(size, wave(size, step))[step], root(size, 0))


if __name__ == "__main__":
    unittest.main()
