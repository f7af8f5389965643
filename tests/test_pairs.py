import random
import unittest
from fractions import Fraction

from tests import reckon
from wavespots.pairs import (
    even_pair_of, has_first_sign, has_second_sign, is_even_pair, partner_of, parts_in, zero_steps,
)

PRIME_POWERS = {2: 2, 3: 3, 4: 2, 5: 5, 7: 7, 8: 2, 9: 3, 11: 11}


def has_pair(size, moments):
    """Whether some lot of as many makes an even pair: those with 0 in it are tried step by step."""
    zeros = set(reckon.zero_steps(size, moments))

    def grows(lot):
        if len(lot) == len(moments):
            return True
        return any(
            grows(lot + (step,)) for step in range(lot[-1] + 1, size)
            if all((step - other) % size in zeros and (other - step) % size in zeros for other in lot)
        )

    return grows((0,))


def sees_its_share(size, moments, signal):
    share = reckon.scaled(reckon.energy(size, signal), Fraction(len(moments), size))
    return reckon.energy(size, signal, moments) == share


def parts_by_division(size, moments):
    polynomial = [int(at in moments) for at in range(size)]
    return tuple(
        divisor for divisor in range(2, size + 1)
        if size % divisor == 0 and not any(reckon.divided(polynomial, reckon.round_of(divisor))[1])
    )


def signs(size, moments):
    parts = parts_by_division(size, moments)
    powers = [part for part in parts if part in PRIME_POWERS]
    product = 1
    for part in powers:
        product *= PRIME_POWERS[part]
    second = True
    for one in powers:
        for other in powers:
            if PRIME_POWERS[one] < PRIME_POWERS[other] and one * other not in parts:
                second = False
    return product == len(moments), second


class ZeroStepsTest(unittest.TestCase):
    def test_all_lots(self):
        for size in reckon.SIZES:
            for moments in reckon.lots(size, 1):
                steps = zero_steps(size, moments)
                self.assertEqual(steps, reckon.zero_steps(size, moments))
                self.assertNotIn(0, steps)

    def test_one_moment_and_all(self):
        for size in reckon.SIZES:
            self.assertEqual(zero_steps(size, (size - 1,)), ())
            self.assertEqual(zero_steps(size, tuple(range(size))), tuple(range(1, size)))


class EvenPairTest(unittest.TestCase):
    def pairs(self, size):
        every = reckon.lots(size, 1)
        if size <= 5:
            return [(moments, steps) for moments in every for steps in every]
        chance = random.Random(size)
        chosen = [(chance.choice(every), chance.choice(every)) for _ in range(300)]
        few = [lot for lot in every if len(lot) < 4]
        return chosen + [(chance.choice(every), chance.choice(few)) for _ in range(300)]

    def test_both_ways_round(self):
        for size in reckon.SIZES:
            for moments, steps in self.pairs(size):
                expected = reckon.is_even_pair(size, moments, steps)
                self.assertIs(is_even_pair(size, moments, steps), expected)
                if expected:
                    self.assertLessEqual(len(steps), len(moments))
                if expected and len(steps) == len(moments):
                    self.assertIs(is_even_pair(size, steps, moments), True)

    def test_even_ones_see_the_share_of_all_signals(self):
        seen = 0
        for size in reckon.SIZES:
            chance = random.Random(size)
            for moments, steps in self.pairs(size):
                if is_even_pair(size, moments, steps) and chance.random() < Fraction(1, 4):
                    signal = reckon.some_signal(chance, size, steps, 5)
                    self.assertTrue(sees_its_share(size, moments, signal))
                    seen += 1
        self.assertGreater(seen, 100)

    def test_others_miss_the_share_of_some_signal(self):
        for size in range(2, 9):
            one = reckon.power(size, 0)
            for moments, steps in self.pairs(size)[::7]:
                if is_even_pair(size, moments, steps):
                    continue
                some = [
                    reckon.values_of(size, {k: one, other: reckon.power(size, turn)})
                    for k in steps for other in steps if k < other for turn in range(size)
                ]
                self.assertFalse(all(sees_its_share(size, moments, signal) for signal in some))

    def test_one_wave(self):
        for size in reckon.SIZES:
            for moments in ((0,), (size - 1,), tuple(range(size))):
                self.assertIs(is_even_pair(size, moments, (size - 1,)), True)

    def test_pair_of_all_lots(self):
        for size in reckon.SIZES:
            for moments in reckon.lots(size, 1):
                found = even_pair_of(size, moments)
                self.assertEqual(found is not None, has_pair(size, moments))
                if found is not None:
                    self.assertEqual((type(found), len(found), found[0]), (tuple, len(moments), 0))
                    self.assertEqual(found, tuple(sorted(set(found))))
                    self.assertTrue(reckon.is_even_pair(size, moments, found))


class SignsTest(unittest.TestCase):
    def test_parts_and_signs_of_all_lots(self):
        for size in reckon.SIZES:
            for moments in reckon.lots(size, 1):
                parts = parts_in(size, moments)
                self.assertEqual(parts, parts_by_division(size, moments))
                zeros = reckon.zero_steps(size, moments)
                self.assertEqual(parts, tuple(
                    part for part in range(2, size + 1) if size % part == 0 and size // part in zeros))
                first, second = signs(size, moments)
                self.assertIs(has_first_sign(size, moments), first)
                self.assertIs(has_second_sign(size, moments), second)

    def test_one_moment_and_all(self):
        for size in reckon.SIZES:
            self.assertEqual(parts_in(size, (size - 1,)), ())
            self.assertIs(has_first_sign(size, (size - 1,)), True)
            self.assertIs(has_second_sign(size, (size - 1,)), True)
            whole = tuple(range(size))
            self.assertEqual(parts_in(size, whole), tuple(part for part in range(2, size + 1) if size % part == 0))
            self.assertIs(has_first_sign(size, whole), True)
            self.assertIs(has_second_sign(size, whole), True)

    def test_a_missing_product(self):
        # (1 + x^6) of 12 has the part 4 and (1 + x^4 + x^8) the part 3; with both, some lots lack 12
        lacking = [lot for lot in reckon.lots(12, 1) if not has_second_sign(12, lot)]
        self.assertTrue(lacking)
        for lot in lacking:
            parts = parts_in(12, lot)
            self.assertTrue((2 in parts and 3 in parts and 6 not in parts)
                            or (4 in parts and 3 in parts and 12 not in parts))


class PartnerTest(unittest.TestCase):
    def test_all_lots(self):
        for size in reckon.SIZES:
            for moments in reckon.lots(size, 1):
                found = partner_of(size, moments)
                self.assertEqual(found is not None, reckon.has_partner(size, moments))
                if found is not None:
                    self.assertEqual((type(found), found[0]), (tuple, 0))
                    self.assertEqual(found, tuple(sorted(set(found))))
                    self.assertTrue(reckon.is_partner(size, moments, found))

    def test_one_moment_and_all(self):
        for size in reckon.SIZES:
            self.assertEqual(partner_of(size, (size - 1,)), tuple(range(size)))
            self.assertEqual(partner_of(size, tuple(range(size))), (0,))

    def test_these_three_are_the_same(self):
        for size in reckon.SIZES:
            for moments in reckon.lots(size, 1):
                has_one = partner_of(size, moments) is not None
                self.assertIs(has_first_sign(size, moments) and has_second_sign(size, moments), has_one)
                self.assertIs(even_pair_of(size, moments) is not None, has_one)


if __name__ == "__main__":
    unittest.main()
