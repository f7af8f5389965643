import random
import unittest
from fractions import Fraction

from tests import reckon
from wavespots.settling import rank_of, settles, signal_with, unseen, unsettled_lot


class SettlingTest(unittest.TestCase):
    def pairs(self, size, many):
        chance = random.Random(size)
        every = reckon.lots(size)
        if size <= 4:
            return [(moments, steps) for moments in every for steps in every]
        return [(chance.choice(every), chance.choice(every)) for _ in range(many)]

    def test_rank(self):
        for size in reckon.SIZES:
            for moments, steps in self.pairs(size, 100):
                rank = reckon.rank(size, moments, steps)
                self.assertEqual(rank_of(size, moments, steps), rank)
                self.assertIs(settles(size, moments, steps), rank == len(steps))

    def test_nothing(self):
        for size in reckon.SIZES:
            self.assertTrue(settles(size, (), ()))
            self.assertTrue(settles(size, (size - 1,), ()))
            self.assertFalse(settles(size, (), (0,)))

    def test_unseen(self):
        for size in reckon.SIZES:
            for moments, steps in self.pairs(size, 60) + [((), (0,)), ((), tuple(range(size))), ((), ()), ((0,), ())]:
                found = unseen(size, moments, steps)
                self.assertEqual(found is None, reckon.settles(size, moments, steps))
                if found is not None:
                    signal = reckon.read_signal(found)
                    self.assertEqual((found, len(found)), (reckon.told_signal(signal), size))
                    self.assertLessEqual(set(reckon.places(signal)), set(reckon.beside(size, moments)))
                    self.assertLessEqual(set(reckon.waves(size, signal)), set(steps))
                    self.assertTrue(any(map(any, signal)))

    def test_unsettled_lot(self):
        for size in reckon.SIZES:
            for moments, steps in self.pairs(size, 20):
                many = max(len(steps), 1)
                found = unsettled_lot(size, moments, many)
                if found is None:
                    self.assertTrue(all(reckon.settles(size, moments, lot) for lot in reckon.lots_of(size, many)))
                else:
                    self.assertIn(found, reckon.lots_of(size, many))
                    self.assertFalse(reckon.settles(size, moments, found))

    def test_signal_with_the_values_of_one(self):
        for size in reckon.SIZES:
            chance = random.Random(size)
            for moments, steps in self.pairs(size, 30):
                signal = reckon.some_signal(chance, size, steps, 9)
                values = reckon.told_signal([signal[moment] for moment in moments])
                found = reckon.read_signal(signal_with(size, moments, steps, values))
                self.assertEqual([found[moment] for moment in moments], [signal[moment] for moment in moments])
                self.assertLessEqual(set(reckon.waves(size, found)), set(steps))

    def test_signal_with_the_values_of_none(self):
        for size in reckon.SIZES:
            for moments, steps in self.pairs(size, 30):
                rank = reckon.rank(size, moments, steps)
                for at, moment in enumerate(moments):
                    spike = [reckon.nought(size)] * len(moments)
                    spike[at] = reckon.power(size, 1)
                    # a spike's values are those of some signal if the moment adds to the rank of the others
                    others = moments[:at] + moments[at + 1:]
                    has_one = reckon.rank(size, others, steps) < rank
                    found = signal_with(size, moments, steps, reckon.told_signal(spike))
                    self.assertEqual(found is not None, has_one)
                    if has_one:
                        found = reckon.read_signal(found)
                        self.assertEqual([found[here] for here in moments], spike)
                        self.assertLessEqual(set(reckon.waves(size, found)), set(steps))

    def test_great_fractions(self):
        part = (Fraction(10 ** 200 + 1, 3 ** 300), Fraction(-7 ** 200, 2 ** 500))
        values = reckon.values_of(6, {1: part, 4: part})
        told = reckon.told_signal(values)
        self.assertEqual(signal_with(6, (0, 5), (1, 4), (told[0], told[5])), told)


if __name__ == "__main__":
    unittest.main()
