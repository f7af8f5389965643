import random
import unittest
from fractions import Fraction
from itertools import product

from tests import reckon
from wavespots.errors import NoDivisor
from wavespots.numbers import (
    degree_of, is_number, is_size, mirrored, nought, number_from, over, plus, root, round_polynomial, times,
)

PRIMES_IN = {2: (2,), 3: (3,), 4: (2,), 5: (5,), 6: (2, 3), 7: (7,), 8: (2,), 9: (3,), 10: (2, 5), 11: (11,),
             12: (2, 3)}
GREAT = 10 ** 300


def samples(size, many=12):
    """Numbers with small, middling and great fractions, and the edges."""
    chance = random.Random(size)
    found = [reckon.nought(size)] + [reckon.power(size, step) for step in range(size)]
    found += [tuple(-part for part in number) for number in found[1:3]]
    for limit in (2, 9, 10 ** 12):
        found += [reckon.some_number(chance, size, limit) for _ in range(many // 3)]
    return found + [reckon.some_number(chance, size, GREAT), reckon.some_number(chance, size, GREAT)]


def pairs(size):
    numbers = samples(size)
    chance = random.Random(-size)
    return list(zip(numbers, numbers[1:] + numbers[:1])) + [
        (chance.choice(numbers), chance.choice(numbers[:-2])) for _ in range(30)]


class NumbersTest(unittest.TestCase):
    def test_sizes(self):
        self.assertEqual([size for size in range(-3, 30) if is_size(size)], list(range(2, 13)))

    def test_round_polynomials(self):
        for size in reckon.SIZES:
            self.assertEqual(round_polynomial(size), reckon.round_of(size))
            self.assertEqual(degree_of(size), reckon.phi(size))
            self.assertTrue(all(type(part) is int for part in round_polynomial(size)))
            self.assertEqual((type(round_polynomial(size)), round_polynomial(size)[-1]), (tuple, 1))

    def test_z_makes_it_nought(self):
        for size in reckon.SIZES:
            value = sum(part * reckon.approximate(size, reckon.power(size, at))
                        for at, part in enumerate(round_polynomial(size)))
            self.assertLess(abs(value), 1e-12)

    def test_product_over_the_divisors(self):
        for size in reckon.SIZES:
            total = [-1, 1]
            for divisor in range(2, size + 1):
                if size % divisor == 0:
                    made = [0] * (len(total) + degree_of(divisor))
                    for low, part in enumerate(total):
                        for at, other in enumerate(round_polynomial(divisor)):
                            made[low + at] += part * other
                    total = made
            self.assertEqual(total, [-1] + [0] * (size - 1) + [1])

    def test_roots(self):
        for size in reckon.SIZES:
            for step in range(size):
                self.assertEqual(root(size, step), reckon.told(reckon.power(size, step)))
                self.assertTrue(is_number(size, root(size, step)))

    def test_powers_of_the_first_root(self):
        for size in reckon.SIZES:
            first = reckon.read(root(size, 1))
            power = reckon.read(root(size, 0))
            for step in range(size):
                self.assertEqual(reckon.read(root(size, step)), power)
                power = reckon.times(size, power, first)
            self.assertEqual(power, reckon.read(root(size, 0)))

    def test_nought(self):
        for size in reckon.SIZES:
            self.assertEqual(nought(size), reckon.told(reckon.nought(size)))

    def test_is_number_of_great_ones(self):
        for size in reckon.SIZES:
            for number in samples(size):
                self.assertIs(is_number(size, reckon.told(number)), True)
                doubled = tuple((2 * above, 2 * below) for above, below in reckon.told(number))
                self.assertIs(is_number(size, doubled), False)


class NumberFromTest(unittest.TestCase):
    def check(self, size, turns):
        turns = [Fraction(part) for part in turns]
        self.assertEqual(number_from(size, reckon.told(turns)), reckon.told(reckon.from_turns(size, turns)))

    def test_all_rows_of_a_few_fractions(self):
        for size, choices in ((2, range(-4, 5)), (3, range(-3, 4)), (4, range(-2, 3)), (5, range(-1, 2)),
                              (6, range(-1, 2))):
            for turns in product(choices, repeat=size):
                self.check(size, [Fraction(part, 2) for part in turns])

    def test_some_rows(self):
        for size in reckon.SIZES:
            chance = random.Random(size)
            for limit in (3, 100, GREAT):
                for _ in range(10):
                    self.check(size, [Fraction(chance.randint(-limit, limit), chance.randint(1, limit))
                                      for _ in range(size)])

    def test_single_powers(self):
        for size in reckon.SIZES:
            for step in range(size):
                turns = [(int(at == step), 1) for at in range(size)]
                self.assertEqual(number_from(size, tuple(turns)), root(size, step))

    def test_by_rounded_numbers(self):
        for size in reckon.SIZES:
            chance = random.Random(size)
            for _ in range(10):
                turns = [Fraction(chance.randint(-9, 9), chance.randint(1, 9)) for _ in range(size)]
                number = reckon.read(number_from(size, reckon.told(turns)))
                self.assertLess(abs(reckon.approximate(size, number) - reckon.approximate(size, turns)), 1e-9)

    def test_sums_alike_round_the_ring_are_nought(self):
        for size in reckon.SIZES:
            chance = random.Random(size)
            for prime in PRIMES_IN[size]:
                for start in range(size // prime):
                    turns = [Fraction(0)] * size
                    part = Fraction(chance.randint(1, GREAT), chance.randint(1, GREAT))
                    for at in range(start, size, size // prime):
                        turns[at] = part
                    self.assertEqual(number_from(size, reckon.told(turns)), nought(size))
                    # without one of them it is that one's power, but for the sign
                    turns[start] = Fraction(0)
                    less = reckon.scaled(reckon.power(size, start), -part)
                    self.assertEqual(number_from(size, reckon.told(turns)), reckon.told(less))

    def test_alike_but_for_such_sums(self):
        for size in reckon.SIZES:
            chance = random.Random(size)
            for _ in range(10):
                turns = [Fraction(chance.randint(-5, 5), chance.randint(1, 5)) for _ in range(size)]
                others = list(turns)
                for prime in PRIMES_IN[size]:
                    start, part = chance.randrange(size // prime), Fraction(chance.randint(1, 5), 7)
                    for at in range(start, size, size // prime):
                        others[at] += part
                self.assertEqual(number_from(size, reckon.told(turns)), number_from(size, reckon.told(others)))

    def test_nought(self):
        for size in reckon.SIZES:
            self.assertEqual(number_from(size, ((0, 1),) * size), nought(size))
            self.assertEqual(number_from(size, ((1, 1),) * size), nought(size))


class SumsAndProductsTest(unittest.TestCase):
    def test_plus(self):
        for size in reckon.SIZES:
            for number, other in pairs(size):
                found = plus(size, reckon.told(number), reckon.told(other))
                self.assertEqual(found, reckon.told(reckon.add(number, other)))

    def test_plus_nought_and_the_negative(self):
        for size in reckon.SIZES:
            for number in samples(size):
                told, less = reckon.told(number), reckon.told(reckon.scaled(number, -1))
                self.assertEqual(plus(size, told, nought(size)), told)
                self.assertEqual(plus(size, told, less), nought(size))

    def test_times(self):
        for size in reckon.SIZES:
            for number, other in pairs(size):
                told = reckon.told(reckon.times(size, number, other))
                self.assertEqual(times(size, reckon.told(number), reckon.told(other)), told)
                self.assertEqual(times(size, reckon.told(other), reckon.told(number)), told)

    def test_times_nought_one_and_roots(self):
        for size in reckon.SIZES:
            for number in samples(size):
                told = reckon.told(number)
                self.assertEqual(times(size, told, nought(size)), nought(size))
                for step in range(size):
                    turned = reckon.turned_sum(size, [number], [step])
                    self.assertEqual(times(size, root(size, step), told), reckon.told(turned))

    def test_products_of_roots(self):
        for size in reckon.SIZES:
            for step in range(size):
                for other in range(size):
                    self.assertEqual(times(size, root(size, step), root(size, other)), root(size, (step + other) % size))

    def test_sums_and_products_together(self):
        for size in reckon.SIZES:
            first, second, third = [reckon.told(number) for number in samples(size)[-5:-2]]
            self.assertEqual(times(size, plus(size, first, second), third),
                             plus(size, times(size, first, third), times(size, second, third)))
            self.assertEqual(times(size, times(size, first, second), third),
                             times(size, first, times(size, second, third)))

    def test_by_rounded_numbers(self):
        for size in reckon.SIZES:
            chance = random.Random(size)
            for _ in range(10):
                number, other = [reckon.some_number(chance, size, 9) for _ in range(2)]
                one, two = reckon.approximate(size, number), reckon.approximate(size, other)
                for function, expected in ((plus, one + two), (times, one * two)):
                    found = function(size, reckon.told(number), reckon.told(other))
                    self.assertLess(abs(reckon.approximate(size, reckon.read(found)) - expected), 1e-8)


class MirroredTest(unittest.TestCase):
    def test_mirrored(self):
        for size in reckon.SIZES:
            for number in samples(size):
                told = mirrored(size, reckon.told(number))
                self.assertEqual(told, reckon.told(reckon.mirrored(size, number)))
                self.assertEqual(mirrored(size, told), reckon.told(number))

    def test_roots(self):
        for size in reckon.SIZES:
            for step in range(size):
                self.assertEqual(mirrored(size, root(size, step)), root(size, -step % size))

    def test_by_rounded_numbers(self):
        for size in reckon.SIZES:
            chance = random.Random(size)
            for _ in range(10):
                number = reckon.some_number(chance, size, 9)
                found = reckon.read(mirrored(size, reckon.told(number)))
                expected = reckon.approximate(size, number).conjugate()
                self.assertLess(abs(reckon.approximate(size, found) - expected), 1e-9)

    def test_fractions_alone(self):
        for size in reckon.SIZES:
            told = ((-7, 3),) + nought(size)[1:]
            self.assertEqual(mirrored(size, told), told)


class OverTest(unittest.TestCase):
    def test_the_product_is_the_number(self):
        for size in reckon.SIZES:
            for number, other in pairs(size):
                if any(other):
                    found = over(size, reckon.told(number), reckon.told(other))
                    self.assertEqual(reckon.times(size, reckon.read(found), other), number)
                    self.assertEqual(reckon.told(reckon.read(found)), found)

    def test_back_from_a_product(self):
        for size in reckon.SIZES:
            for number, other in pairs(size):
                if any(other):
                    product_of_both = reckon.told(reckon.times(size, number, other))
                    self.assertEqual(over(size, product_of_both, reckon.told(other)), reckon.told(number))

    def test_all_small_numbers(self):
        for size in (2, 3, 4, 5, 6, 8, 10, 12):
            one = reckon.power(size, 0)
            for parts in product((-2, -1, 0, 1), repeat=reckon.phi(size)):
                if any(parts):
                    found = over(size, root(size, 0), tuple((part, 1) for part in parts))
                    self.assertEqual(reckon.times(size, reckon.read(found), parts), one)

    def test_itself_one_and_nought(self):
        for size in reckon.SIZES:
            for number in samples(size):
                told = reckon.told(number)
                self.assertEqual(over(size, told, root(size, 0)), told)
                if any(number):
                    self.assertEqual(over(size, told, told), root(size, 0))
                    self.assertEqual(over(size, nought(size), told), nought(size))

    def test_roots(self):
        for size in reckon.SIZES:
            for step in range(size):
                for other in range(size):
                    self.assertEqual(over(size, root(size, step), root(size, other)), root(size, (step - other) % size))

    def test_by_rounded_numbers(self):
        for size in reckon.SIZES:
            chance = random.Random(size)
            for _ in range(10):
                number, other = [reckon.some_number(chance, size, 9) for _ in range(2)]
                found = reckon.read(over(size, reckon.told(number), reckon.told(other)))
                value = reckon.approximate(size, found) * reckon.approximate(size, other)
                self.assertLess(abs(value - reckon.approximate(size, number)), 1e-6)

    def test_nought_has_none(self):
        for size in reckon.SIZES:
            for number in samples(size):
                with self.assertRaises(NoDivisor):
                    over(size, reckon.told(number), nought(size))

    def test_what_was_returned_may_be_passed(self):
        for size in reckon.SIZES:
            chance = random.Random(size)
            number, other = [reckon.told(reckon.some_number(chance, size, 10 ** 60)) for _ in range(2)]
            quotient = over(size, number, other)
            square = times(size, quotient, mirrored(size, quotient))
            self.assertTrue(is_number(size, square))
            self.assertEqual(over(size, square, mirrored(size, quotient)), quotient)
            self.assertEqual(times(size, quotient, other), number)


if __name__ == "__main__":
    unittest.main()
