"""The examples that the document gives, as they stand there."""

import unittest

from wavespots.certificates import certify_every, certify_pair, certify_partner, certify_settling
from wavespots.checker import accepts
from wavespots.errors import NoDivisor, TooMany
from wavespots.every import broken_lot, is_even, settles_all
from wavespots.few import coset_signal, fewest_waves, is_coset_signal, least_by_line, signal_on
from wavespots.lost import lost_signal, survives
from wavespots.lots import beside, is_lot, lot_moved, lot_times, rests
from wavespots.numbers import (
    degree_of, is_number, is_size, mirrored, number_from, over, plus, root, round_polynomial, times,
)
from wavespots.pairs import (
    even_pair_of, has_first_sign, has_second_sign, is_even_pair, partner_of, parts_in, zero_steps,
)
from wavespots.settling import (
    first_moments, first_waves, rank_of, settles, signal_with, table_of, unseen, way_back,
)
from wavespots.signals import (
    energy, is_signal, moved, parts_of, places_of, round_product, signal_from, turned, wave, waves_of,
)
from wavespots.unknown import clash, few_back, tells_few

nil, half, one, two, less = (0, 1), (1, 2), (1, 1), (2, 1), (-1, 1)
spike = ((one, nil), (nil, nil), (nil, nil), (nil, nil))
pair = ((one, nil), (one, nil), (nil, nil), (nil, nil))


class NumbersExamples(unittest.TestCase):
    def test_sizes_and_numbers(self):
        self.assertEqual(
            [is_size(12), is_size(13), is_size(True), degree_of(12), round_polynomial(6), round_polynomial(12),
             is_number(4, (nil, half)), is_number(3, (nil,))],
            [True, False, False, 4, (1, -1, 1), (1, 0, -1, 0, 1), True, False],
        )

    def test_roots_and_sums_of_them(self):
        self.assertEqual(
            [root(4, 1), root(4, 2), root(3, 2), root(6, 2), number_from(3, (one, one, one)),
             number_from(4, (one, nil, half, two))],
            [((0, 1), (1, 1)), ((-1, 1), (0, 1)), ((-1, 1), (-1, 1)), ((-1, 1), (1, 1)), ((0, 1), (0, 1)),
             ((1, 2), (-2, 1))],
        )

    def test_reckoning(self):
        self.assertEqual(
            [times(4, root(4, 1), root(4, 1)) == root(4, 2), plus(3, root(3, 1), root(3, 2)), mirrored(4, (one, two)),
             over(4, (one, nil), (one, one)), over(2, (one,), (two,))],
            [True, ((-1, 1), (0, 1)), ((1, 1), (-2, 1)), ((1, 2), (-1, 2)), ((1, 2),)],
        )

    def test_no_divisor(self):
        with self.assertRaises(NoDivisor):
            over(4, (one, one), (nil, nil))


class SignalsExamples(unittest.TestCase):
    def test_parts_places_and_waves(self):
        self.assertEqual(
            [is_signal(4, spike), is_signal(3, spike), parts_of(4, spike)[3], wave(4, 1), waves_of(4, spike),
             places_of(4, wave(4, 1)), waves_of(4, wave(4, 3))],
            [True, False, ((1, 4), (0, 1)),
             (((1, 1), (0, 1)), ((0, 1), (1, 1)), ((-1, 1), (0, 1)), ((0, 1), (-1, 1))), (0, 1, 2, 3), (0, 1, 2, 3),
             (3,)],
        )

    def test_moved_turned_and_multiplied(self):
        self.assertEqual(
            [signal_from(4, parts_of(4, spike)) == spike, places_of(4, moved(4, spike, 3)),
             turned(4, wave(4, 1), 2) == wave(4, 3),
             round_product(4, moved(4, spike, 1), wave(4, 1)) == moved(4, wave(4, 1), 1), energy(4, wave(4, 1)),
             energy(2, ((two,), (less,)))],
            [True, (3,), True, True, ((4, 1), (0, 1)), ((5, 1),)],
        )


class SettlingExamples(unittest.TestCase):
    def test_lots(self):
        self.assertEqual(
            [is_lot(4, (0, 2)), is_lot(4, (2, 0)), is_lot(4, (4,)), is_lot(4, ()), beside(4, (0, 2)),
             lot_moved(4, (0, 2, 3), 2), lot_times(4, (0, 1, 2), 3), rests(4, (0, 2, 3), 2)],
            [True, False, False, True, (1, 3), (0, 1, 2), (0, 2, 3), (2, 1)],
        )

    def test_ranks(self):
        unit, turn = (one, nil), (nil, one)
        self.assertEqual(
            [table_of(4, (0, 1), (0, 1)) == ((unit, unit), (unit, turn)), rank_of(4, (0, 2), (0, 2)),
             rank_of(4, (1, 3), (1, 3)), settles(4, (0, 2), (0, 2)), settles(4, (0, 2), (0, 1)), settles(4, (), ())],
            [True, 1, 1, False, True, True],
        )

    def test_ways_back_and_first_ones(self):
        self.assertEqual(
            [way_back(4, (0, 2), (0, 1)), way_back(4, (0, 2), (0, 2)), unseen(4, (0, 2), (0, 1)),
             first_moments(4, (0, 2, 3), (0, 2)), first_waves(4, (0, 2), (0, 2, 3))],
            [((((1, 2), (0, 1)), ((1, 2), (0, 1))), (((1, 2), (0, 1)), ((-1, 2), (0, 1)))), None, None, (0, 3), (0, 3)],
        )

    def test_signals(self):
        none, unit = (nil, nil), (one, nil)
        found = unseen(4, (0, 2), (0, 2))
        self.assertEqual(
            [found[0], found[2], found[1] == found[3], found[1] == none,
             signal_with(4, (0, 2), (0, 2), (unit, none)), signal_with(4, (0, 2), (0, 1), (unit, unit))],
            [((0, 1), (0, 1)), ((0, 1), (0, 1)), True, False, None,
             (((1, 1), (0, 1)), ((1, 1), (0, 1)), ((1, 1), (0, 1)), ((1, 1), (0, 1)))],
        )


class LostExamples(unittest.TestCase):
    def test_survives(self):
        self.assertEqual(
            [survives(4, (0, 2), 1), survives(4, (0, 2), 2), survives(4, (0, 1), 2), survives(4, (0, 1), 3),
             survives(4, (), 4), survives(5, (0, 2), 3), lost_signal(4, (0, 1), 2)],
            [True, False, True, False, True, True, None],
        )

    def test_too_many(self):
        with self.assertRaises(TooMany) as caught:
            survives(12, (0, 1), 4)
        self.assertEqual(caught.exception.given, 495)


class EveryExamples(unittest.TestCase):
    def test_settles_all(self):
        self.assertEqual(
            [is_even(4, (0, 2)), is_even(4, (0, 1)), is_even(6, (0, 3)), is_even(6, (0, 1, 2)), settles_all(4, (0, 1)),
             settles_all(4, (0, 2)), settles_all(6, (0, 1, 2)), settles_all(5, (0, 2, 3)), settles_all(4, ())],
            [False, True, False, True, True, False, True, True, True],
        )

    def test_broken_lot(self):
        self.assertEqual(
            [broken_lot(4, (0, 2)) in ((0, 2), (1, 3)),
             broken_lot(6, (0, 3)) in ((0, 2), (0, 4), (1, 3), (1, 5), (2, 4), (3, 5)), broken_lot(4, (0, 1))],
            [True, True, None],
        )

    def test_too_many(self):
        with self.assertRaises(TooMany) as caught:
            settles_all(12, (0, 1, 2, 3))
        self.assertEqual(caught.exception.given, 495)


class FewExamples(unittest.TestCase):
    def test_coset_signals(self):
        self.assertEqual(
            [coset_signal(4, 2, 1, 1), waves_of(4, coset_signal(4, 2, 1, 1)), is_coset_signal(4, spike),
             is_coset_signal(4, pair), waves_of(4, pair)],
            [(((0, 1), (0, 1)), ((0, 1), (1, 1)), ((0, 1), (0, 1)), ((0, 1), (-1, 1))), (1, 3), True, False,
             (0, 1, 3)],
        )

    def test_least_and_fewest(self):
        self.assertEqual(
            [[least_by_line(6, many) for many in (1, 2, 3, 4, 5, 6)], least_by_line(5, 3), fewest_waves(4, (0, 1)),
             fewest_waves(4, (0, 2)), fewest_waves(4, (0, 1, 2))],
            [[6, 3, 2, 2, 2, 1], 3, 3, 2, 2],
        )

    def test_signal_on(self):
        some = signal_on(3, (0, 1), (0, 1))
        self.assertEqual(
            [places_of(3, some), waves_of(3, some), signal_on(3, (0,), (0,)), signal_on(4, (0, 1), (0, 2)),
             places_of(4, signal_on(4, (0, 2), (0, 2)))],
            [(0, 1), (0, 1), None, None, (0, 2)],
        )


class PairsExamples(unittest.TestCase):
    def test_even_pairs(self):
        self.assertEqual(
            [zero_steps(4, (0, 2)), zero_steps(4, (0, 1)), is_even_pair(4, (0, 1), (0, 2)),
             is_even_pair(4, (0, 2), (0, 1)), is_even_pair(4, (0, 1), (0, 1)), even_pair_of(4, (0, 1)),
             even_pair_of(4, (0, 1, 2))],
            [(1, 3), (2,), True, True, False, (0, 2), None],
        )

    def test_parts_and_signs(self):
        self.assertEqual(
            [parts_in(4, (0, 1)), parts_in(4, (0, 2)), parts_in(6, (0, 1, 2)), parts_in(6, (0, 1, 2, 3, 4, 5)),
             has_first_sign(4, (0, 1)), has_first_sign(4, (0, 1, 2)), has_second_sign(6, (0, 1, 2))],
            [(2,), (4,), (3,), (2, 3, 6), True, False, True],
        )

    def test_partners(self):
        self.assertEqual(
            [partner_of(4, (0, 1)), partner_of(4, (0, 2)) in ((0, 1), (0, 3)), partner_of(4, (0, 1, 2))],
            [(0, 2), True, None],
        )


class UnknownExamples(unittest.TestCase):
    def test_tells_few(self):
        self.assertEqual(
            [tells_few(4, (0, 1), 1), tells_few(4, (0, 2), 1), tells_few(4, (0, 1, 2, 3), 2), clash(4, (0, 1), 1)],
            [True, False, True, None],
        )

    def test_clash(self):
        first, second = clash(4, (0, 2), 1)
        self.assertEqual(
            [first != second, first[0] == second[0], first[2] == second[2], len(waves_of(4, first)) < 2,
             len(waves_of(4, second)) < 2],
            [True, True, True, True, True],
        )

    def test_few_back(self):
        self.assertEqual(
            [few_back(4, 1, (root(4, 1), root(4, 2))) == wave(4, 1), few_back(4, 0, ((one, nil), (two, nil))),
             places_of(4, few_back(4, 3, ((nil, nil), (nil, nil)))),
             few_back(4, 0, (root(4, 0), root(4, 0), root(4, 0), (two, nil)))],
            [True, None, (), None],
        )


class CertificatesExamples(unittest.TestCase):
    def test_certificates(self):
        self.assertEqual(
            [certify_settling(4, (0, 2), (0, 1))[0], certify_settling(4, (0, 2), (0, 2))[0][0],
             certify_every(4, (0, 1)), certify_every(4, (0, 2))[0], certify_pair(4, (0, 1), (0, 1))[0][0],
             certify_partner(4, (0, 1))[0]],
            [("settles", 4, (0, 2), (0, 1)), "unseen", (("settles all", 4, (0, 1)), ()), ("broken", 4, (0, 2)),
             "uneven pair", ("partner", 4, (0, 1))],
        )

    def test_accepts(self):
        self.assertEqual(
            [accepts(("settles", 4, (0, 2), (0, 1)), way_back(4, (0, 2), (0, 1))),
             accepts(("unseen", 4, (0, 2), (0, 2)), unseen(4, (0, 2), (0, 2))),
             accepts(("uneven pair", 4, (0, 1), (0, 1)), (1, 0)), accepts(("partner", 4, (0, 1)), (1, 3)),
             accepts(("partner", 4, (0, 1)), (0, 1)), accepts(("settles all", 4, (0, 2)), ())],
            [True, True, True, True, False, False],
        )


if __name__ == "__main__":
    unittest.main()
