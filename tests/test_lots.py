import unittest
from itertools import product

from tests import reckon
from wavespots.lots import beside, is_lot, lots_with_nought


class LotsTest(unittest.TestCase):
    def test_all_lots(self):
        for size in reckon.SIZES:
            for lot in reckon.lots(size):
                self.assertTrue(is_lot(size, lot))
                others = beside(size, lot)
                self.assertEqual(sorted(lot + others), list(range(size)))
                self.assertEqual(others, tuple(sorted(others)))

    def test_what_is_no_lot(self):
        for size in (2, 3, 4):
            right = reckon.lots(size)
            for length in range(5):
                for value in product(range(-1, size + 2), repeat=length):
                    self.assertIs(is_lot(size, value), value in right)

    def test_lots_with_nought(self):
        for size in reckon.SIZES:
            for more in range(size):
                expected = [lot for lot in reckon.lots_of(size, more + 1) if 0 in lot]
                self.assertEqual(lots_with_nought(size, more), expected)


if __name__ == "__main__":
    unittest.main()
