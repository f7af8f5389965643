"""The examples that the document gives under few.py, pairs.py and unknown.py, as they stand there."""

import unittest

from wavespots.few import coset_signal, fewest_waves, is_coset_signal, least_by_line, signal_on
from wavespots.numbers import root
from wavespots.pairs import (
    even_pair_of, has_first_sign, has_second_sign, is_even_pair, partner_of, parts_in, zero_steps,
)
from wavespots.signals import places_of, wave, waves_of
from wavespots.unknown import clash, few_back, tells_few

nil, half, one, two, less = (0, 1), (1, 2), (1, 1), (2, 1), (-1, 1)
spike = ((one, nil), (nil, nil), (nil, nil), (nil, nil))
pair = ((one, nil), (one, nil), (nil, nil), (nil, nil))


class FewExamples(unittest.TestCase):
    def test_coset_signals(self):
        self.assertEqual(
            [coset_signal(4, 2, 1, 1), waves_of(4, coset_signal(4, 2, 1, 1)), is_coset_signal(4, spike),
             is_coset_signal(4, pair), waves_of(4, pair)],
            [(((0, 1), (0, 1)), ((0, 1), (1, 1)), ((0, 1), (0, 1)), ((0, 1), (-1, 1))), (1, 3), True, False,
             (0, 1, 3)],
        )

    def test_least_and_fewest(self):
        self.assertEqual(
            [[least_by_line(6, many) for many in (1, 2, 3, 4, 5, 6)], least_by_line(5, 3), fewest_waves(4, (0, 1)),
             fewest_waves(4, (0, 2)), fewest_waves(4, (0, 1, 2))],
            [[6, 3, 2, 2, 2, 1], 3, 3, 2, 2],
        )

    def test_signal_on(self):
        some = signal_on(3, (0, 1), (0, 1))
        self.assertEqual(
            [places_of(3, some), waves_of(3, some), signal_on(3, (0,), (0,)), signal_on(4, (0, 1), (0, 2)),
             places_of(4, signal_on(4, (0, 2), (0, 2)))],
            [(0, 1), (0, 1), None, None, (0, 2)],
        )


class PairsExamples(unittest.TestCase):
    def test_even_pairs(self):
        self.assertEqual(
            [zero_steps(4, (0, 2)), zero_steps(4, (0, 1)), is_even_pair(4, (0, 1), (0, 2)),
             is_even_pair(4, (0, 2), (0, 1)), is_even_pair(4, (0, 1), (0, 1)), even_pair_of(4, (0, 1)),
             even_pair_of(4, (0, 1, 2))],
            [(1, 3), (2,), True, True, False, (0, 2), None],
        )

    def test_parts_and_signs(self):
        self.assertEqual(
            [parts_in(4, (0, 1)), parts_in(4, (0, 2)), parts_in(6, (0, 1, 2)), parts_in(6, (0, 1, 2, 3, 4, 5)),
             has_first_sign(4, (0, 1)), has_first_sign(4, (0, 1, 2)), has_second_sign(6, (0, 1, 2))],
            [(2,), (4,), (3,), (2, 3, 6), True, False, True],
        )

    def test_partners(self):
        self.assertEqual(
            [partner_of(4, (0, 1)), partner_of(4, (0, 2)) in ((0, 1), (0, 3)), partner_of(4, (0, 1, 2))],
            [(0, 2), True, None],
        )


class UnknownExamples(unittest.TestCase):
    def test_tells_few(self):
        self.assertEqual(
            [tells_few(4, (0, 1), 1), tells_few(4, (0, 2), 1), tells_few(4, (0, 1, 2, 3), 2), clash(4, (0, 1), 1)],
            [True, False, True, None],
        )

    def test_clash(self):
        first, second = clash(4, (0, 2), 1)
        self.assertEqual(
            [first != second, first[0] == second[0], first[2] == second[2], len(waves_of(4, first)) < 2,
             len(waves_of(4, second)) < 2],
            [True, True, True, True, True],
        )

    def test_few_back(self):
        self.assertEqual(
            [few_back(4, 1, (root(4, 1), root(4, 2))) == wave(4, 1), few_back(4, 0, ((one, nil), (two, nil))),
             places_of(4, few_back(4, 3, ((nil, nil), (nil, nil)))),
             few_back(4, 0, (root(4, 0), root(4, 0), root(4, 0), (two, nil)))],
            [True, None, (), None],
        )


if __name__ == "__main__":
    unittest.main()
