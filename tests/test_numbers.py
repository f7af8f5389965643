import unittest

from tests import reckon
from wavespots.numbers import degree_of, is_number, is_size, nought, root, round_polynomial


class NumbersTest(unittest.TestCase):
    def test_sizes(self):
        self.assertEqual([size for size in range(-3, 30) if is_size(size)], list(range(2, 13)))

    def test_round_polynomials(self):
        for size in reckon.SIZES:
            self.assertEqual(round_polynomial(size), reckon.round_of(size))
            self.assertEqual(degree_of(size), reckon.phi(size))
            self.assertTrue(all(type(part) is int for part in round_polynomial(size)))

    def test_product_over_the_divisors(self):
        for size in reckon.SIZES:
            product = [-1, 1]
            for divisor in range(2, size + 1):
                if size % divisor == 0:
                    times = [0] * (len(product) + degree_of(divisor))
                    for low, part in enumerate(product):
                        for at, other in enumerate(round_polynomial(divisor)):
                            times[low + at] += part * other
                    product = times
            self.assertEqual(product, [-1] + [0] * (size - 1) + [1])

    def test_roots(self):
        for size in reckon.SIZES:
            for step in range(size):
                self.assertEqual(root(size, step), reckon.told(reckon.power(size, step)))
                self.assertTrue(is_number(size, root(size, step)))

    def test_powers_of_the_first_root(self):
        for size in reckon.SIZES:
            first = reckon.read(root(size, 1))
            power = reckon.read(root(size, 0))
            for step in range(size):
                self.assertEqual(reckon.read(root(size, step)), power)
                power = reckon.times(size, power, first)
            self.assertEqual(power, reckon.read(root(size, 0)))

    def test_nought(self):
        for size in reckon.SIZES:
            self.assertEqual(nought(size), reckon.told(reckon.nought(size)))


if __name__ == "__main__":
    unittest.main()
