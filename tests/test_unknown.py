import random
import unittest
from fractions import Fraction
from math import comb

from tests import reckon
from wavespots.unknown import clash, few_back, tells_few

MOST_LOTS = 300


def is_let(size, many):
    return comb(size, min(2 * many, size)) <= MOST_LOTS


def told_values(size, signal, start, many):
    return reckon.told_signal([signal[(start + at) % size] for at in range(many)])


class TellsFewTest(unittest.TestCase):
    def check(self, size, moments, many, expected):
        with self.subTest(size=size, moments=moments, many=many):
            self.assertIs(tells_few(size, moments, many), expected)
            found = clash(size, moments, many)
            if expected:
                self.assertIsNone(found)
                return
            self.assertEqual((type(found), len(found)), (tuple, 2))
            first, second = [reckon.read_signal(signal) for signal in found]
            self.assertEqual(found, (reckon.told_signal(first), reckon.told_signal(second)))
            self.assertEqual((len(first), len(second)), (size, size))
            self.assertNotEqual(first, second)
            self.assertEqual([first[at] for at in moments], [second[at] for at in moments])
            self.assertLessEqual(len(reckon.waves(size, first)), many)
            self.assertLessEqual(len(reckon.waves(size, second)), many)

    def test_all_lots_of_small_sizes(self):
        for size in range(2, 8):
            for many in range(1, size + 1):
                for moments in reckon.lots(size, 1):
                    self.check(size, moments, many, reckon.tells(size, moments, many))

    def test_some_lots_of_greater_sizes(self):
        for size in range(8, 13):
            chance = random.Random(size)
            for many in range(1, size + 1):
                if is_let(size, many):
                    enough = [lot for lot in reckon.lots(size, 1) if len(lot) >= min(2 * many, size)]
                    chosen = chance.sample(enough, min(len(enough), 12)) + chance.sample(reckon.lots(size, 1), 3)
                    for moments in chosen:
                        self.check(size, moments, many, reckon.tells(size, moments, many))

    def test_neighbours_always_do(self):
        for size in reckon.SIZES:
            for many in range(1, size // 2 + 1):
                if is_let(size, many):
                    for start in (0, size - 1):
                        moments = tuple(sorted((start + at) % size for at in range(2 * many)))
                        self.check(size, moments, many, True)
                        self.check(size, moments[1:], many, False)

    def test_one_moment_and_all(self):
        for size in reckon.SIZES:
            for many in range(1, size + 1):
                if is_let(size, many):
                    self.check(size, (0,), many, False)
                    self.check(size, (size - 1,), many, False)
                    self.check(size, tuple(range(size)), many, True)

    def test_many_as_the_size(self):
        for size in reckon.SIZES:
            self.check(size, tuple(range(size - 1)), size, False)
            self.check(size, tuple(range(size - 1)), (size + 1) // 2, False)

    def test_the_same_rests(self):
        # moments that leave the same rest by a divisor see some two waves alike
        for size in (4, 6, 8, 9, 10, 12):
            for divisor in (2, 3):
                if size % divisor == 0:
                    self.check(size, tuple(range(1, size, divisor)), 1, False)


class FewBackTest(unittest.TestCase):
    def check_back(self, size, start, many, signal):
        values = told_values(size, signal, start, many)
        with self.subTest(size=size, start=start, values=values):
            self.assertEqual(few_back(size, start, values), reckon.told_signal(signal))

    def test_all_waves_of_small_sizes(self):
        for size in range(2, 8):
            chance = random.Random(size)
            for half in range(1, size // 2 + 1):
                for steps in reckon.lots(size):
                    if len(steps) <= half:
                        signal = reckon.some_signal(chance, size, steps, 4)
                        for start in range(size):
                            self.check_back(size, start, 2 * half, signal)

    def test_some_waves_of_greater_sizes(self):
        for size in range(8, 13):
            chance = random.Random(size)
            for half in range(1, size // 2 + 1):
                for start in range(size):
                    steps = chance.sample(range(size), chance.randint(0, half))
                    self.check_back(size, start, 2 * half, reckon.some_signal(chance, size, steps, 4))
                    steps = chance.sample(range(size), half)
                    self.check_back(size, start, 2 * half, reckon.some_signal(chance, size, steps, 1))

    def test_each_wave(self):
        for size in reckon.SIZES:
            for step in range(size):
                signal = reckon.values_of(size, {step: reckon.power(size, 1)})
                self.check_back(size, size - 1, 2, signal)
                self.check_back(size, 1, size - size % 2, signal)

    def test_noughts(self):
        for size in reckon.SIZES:
            for half in range(1, size // 2 + 1):
                self.check_back(size, 1, 2 * half, (reckon.nought(size),) * size)

    def test_values_of_signals_with_one_wave_more(self):
        for size in range(3, 13):
            chance = random.Random(size)
            for half in range(1, size // 2 + 1):
                for start in (0, size - 1):
                    signal = reckon.some_signal(chance, size, chance.sample(range(size), half + 1), 4)
                    values = told_values(size, signal, start, 2 * half)
                    self.check_values(size, start, values)

    def check_values(self, size, start, values):
        """By trying all lots of half as many waves: some have a signal with the values, or none has."""
        half = len(values) // 2
        numbers = reckon.read_signal(values)
        expected = any(
            self.leaves_noughts(size, numbers, steps) for steps in reckon.lots_of(size, half)
        )
        found = few_back(size, start, values)
        with self.subTest(size=size, start=start, values=values):
            self.assertEqual(found is not None, expected)
            if expected:
                signal = reckon.read_signal(found)
                self.assertEqual(told_values(size, signal, start, len(values)), values)
                self.assertLessEqual(len(reckon.waves(size, signal)), half)

    def leaves_noughts(self, size, values, steps):
        """Whether the polynomial with just these roots, times the values one behind the other, is nought."""
        polynomial = [reckon.power(size, 0)]
        for step in steps:
            less = [reckon.turned_sum(size, [part], [step]) for part in polynomial]
            raised = [reckon.nought(size), *polynomial]
            polynomial = [
                reckon.add(up, tuple(-part for part in down))
                for up, down in zip(raised, [*less, reckon.nought(size)])
            ]
        for at in range(len(values) - len(steps)):
            total = reckon.nought(size)
            for value, part in zip(values[at:], polynomial):
                total = reckon.add(total, reckon.times(size, value, part))
            if any(total):
                return False
        return True

    def test_values_of_no_signal(self):
        for size in range(2, 11):
            chance = random.Random(size)
            choices = [reckon.nought(size), reckon.power(size, 0), reckon.power(size, 1), reckon.power(size, size // 2)]
            choices.append(reckon.add(choices[1], choices[2]))
            for half in range(1, size // 2 + 1):
                for _ in range(12 if size < 8 else 4):
                    numbers = [chance.choice(choices) for _ in range(2 * half)]
                    self.check_values(size, chance.randrange(size), reckon.told_signal(numbers))

    def test_two_values(self):
        for size in reckon.SIZES:
            one, nil = reckon.power(size, 0), reckon.nought(size)
            two = reckon.add(one, one)
            for values in ((one, two), (one, nil), (nil, one), (two, one)):
                self.assertIsNone(few_back(size, 0, reckon.told_signal(values)))
            less = tuple(-part for part in one)
            self.assertEqual(few_back(size, 0, reckon.told_signal((one, less))) is None, size % 2 == 1)

    def test_one_value_altered(self):
        for size in range(2, 13):
            chance = random.Random(size)
            half = min(size // 2, 3)
            for at in range(2 * half):
                steps = chance.sample(range(size), half)
                signal = list(reckon.some_signal(chance, size, steps, 4))
                signal[at] = reckon.add(signal[at], reckon.some_number(chance, size, 4))
                self.check_values(size, 0, told_values(size, signal, 0, 2 * half))

    def test_great_fractions(self):
        for size in reckon.SIZES:
            chance = random.Random(size)
            half = size // 2
            steps = chance.sample(range(size), half)
            signal = reckon.some_signal(chance, size, steps, 10 ** 60)
            self.check_back(size, 1, 2 * half, signal)
            if size > 2:
                altered = list(signal)
                altered[2] = tuple(part + Fraction(1, 10 ** 390) for part in altered[2])
                self.assertIsNone(few_back(size, 1, told_values(size, altered, 1, 2 * half)))

    def test_edges(self):
        one, nil = ((1, 1),), ((0, 1),)
        self.assertEqual(few_back(2, 0, (one, one)), (one, one))
        self.assertEqual(few_back(2, 1, (one, ((-1, 1),))), (((-1, 1),), one))
        self.assertIsNone(few_back(2, 1, (one, nil)))


if __name__ == "__main__":
    unittest.main()
