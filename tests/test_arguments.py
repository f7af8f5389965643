"""Wrong arguments, one by one and two together, and right ones at the limits."""

import unittest
from inspect import signature
from itertools import combinations
from math import comb

from wavespots import errors, few, lots, numbers, pairs, settling, signals, unknown

SIZE = 6
NIL, ONE, HALF = (0, 1), (1, 1), (-1, 2)
NUMBER = (ONE, HALF)
SIGNAL = (NUMBER, (NIL, NIL), NUMBER, (NIL, ONE), NUMBER, (HALF, HALF))
NO_WHOLE = (True, False, None, "1", b"1", (), (1,), ((1,),), [1], {1}, {1: 1}, object(), len, errors.WaveError)
NO_NUMBERS = (
    None, True, 0, 1, "number", b"no", (), [], {}, object(), ONE, (ONE,), (ONE, ONE, ONE), [ONE, ONE], (ONE, None),
    (1, ONE), (ONE, 0), (ONE, True), (ONE, [1, 1]), (ONE, (1,)), (ONE, (1, 1, 1)), (ONE, ()), (ONE, "11"), ((0, 2), ONE),
    ((2, 4), ONE), (ONE, (-3, 3)), ((1, 0), ONE), ((0, 0), ONE), (ONE, (1, -1)), ((-1, -2), ONE), ((True, 1), ONE),
    (ONE, (1, True)), (ONE, (None, 1)), (ONE, (1, "1")), (NUMBER, NUMBER), ((ONE, ONE), ONE),
    ((10 ** 300, 10 ** 300), ONE),
)
NO_LOTS = (
    True, None, 0, 3, "012", b"\x00\x01", [], [0, 2], {0, 2}, {0: 2}, range(3), object(), len,
    (2, 0), (0, 2, 1), (5, 4, 3), (0, 0), (0, 2, 2), (0, 0, 1), (6,), (0, 6), (0, 1, 2, 3, 4, 5, 6), (-1,), (-1, 0),
    (0, True), (False, 1), (False,), (None,), (0, None), (0, "1"), ("0",), ((0,),), (0, (1,)), ([0],), (0, 10 ** 399),
)


def given(error, values):
    return [(value, error, "given", value) for value in values]


def rows(error, right, lengths):
    """Wrong rows of numbers; lengths are those that are wrong by themselves."""
    found = [(value, error, "index", None) for value in NO_WHOLE + (list(right), "number", dict(enumerate(right)))
             if value != () or 0 in lengths]
    for length in lengths:
        found.append(((NUMBER,) * length, error, "index", None))
        found.append(((None,) * length, error, "index", None))
    for at in range(len(right)):
        for wrong in NO_NUMBERS:
            found.append((right[:at] + (wrong,) + right[at + 1:], error, "index", at))
    for at, later in combinations(range(len(right)), 2):
        row = list(right)
        row[at], row[later] = (ONE,), None
        found.append((tuple(row), error, "index", at))
    return found


SIZES = given(errors.InvalidSize, NO_WHOLE + (-2, 0, 1, 13, 14, 10 ** 399, -10 ** 399))
STEPS = given(errors.InvalidIndex, NO_WHOLE + (-1, SIZE, SIZE + 1, 10 ** 399, -10 ** 399))
COUNTS = given(errors.InvalidCount, NO_WHOLE + (0, -1, SIZE + 1, 10 ** 399, -10 ** 399))
DIVISORS = given(errors.InvalidCount, NO_WHOLE + (0, -1, -3, 4, 5, SIZE + 1, 2 * SIZE, 10 ** 399))
STARTS = given(errors.InvalidIndex, NO_WHOLE + (-1, 3, 4, SIZE, 10 ** 399))
LOTS = given(errors.InvalidLot, NO_LOTS)
FULL_LOTS = LOTS + given(errors.InvalidLot, ((),))
SIGNALS = rows(errors.InvalidSignal, SIGNAL, (0, 1, SIZE - 1, SIZE + 1))
FEW_VALUES = rows(errors.InvalidValues, SIGNAL[:4], (0, 1, 3, 5, 7, 8, 12))
VALUES = rows(errors.InvalidValues, SIGNAL[:3], (0, 1, 2, 4))

# for each function: for each parameter its name, a right argument, and wrong ones
FUNCTIONS = (
    (few.coset_signal, (("divisor", 3, DIVISORS), ("start", 2, STARTS), ("step", 5, STEPS))),
    (few.is_coset_signal, (("signal", SIGNAL, SIGNALS),)),
    (few.least_by_line, (("many", 4, COUNTS),)),
    (few.fewest_waves, (("moments", (0, 2), FULL_LOTS),)),
    (few.signal_on, (("moments", (0, 2), FULL_LOTS), ("waves", (1, 4), FULL_LOTS))),
    (pairs.zero_steps, (("moments", (0, 3), FULL_LOTS),)),
    (pairs.is_even_pair, (("moments", (0, 3), FULL_LOTS), ("waves", (0, 1), FULL_LOTS))),
    (pairs.even_pair_of, (("moments", (0, 3), FULL_LOTS),)),
    (pairs.parts_in, (("moments", (0, 3), FULL_LOTS),)),
    (pairs.has_first_sign, (("moments", (0, 3), FULL_LOTS),)),
    (pairs.has_second_sign, (("moments", (0, 3), FULL_LOTS),)),
    (pairs.partner_of, (("moments", (0, 3), FULL_LOTS),)),
    (unknown.tells_few, (("moments", (0, 1, 3), FULL_LOTS), ("many", 2, COUNTS))),
    (unknown.clash, (("moments", (0, 1, 3), FULL_LOTS), ("many", 2, COUNTS))),
    (unknown.few_back, (("start", 5, STEPS), ("values", SIGNAL[:4], FEW_VALUES))),
    (numbers.round_polynomial, ()),
    (numbers.degree_of, ()),
    (numbers.is_number, (("value", NUMBER, []),)),
    (numbers.root, (("step", 5, STEPS),)),
    (lots.is_lot, (("value", (0, 3), []),)),
    (lots.beside, (("lot", (0, 3), LOTS),)),
    (signals.parts_of, (("signal", SIGNAL, SIGNALS),)),
    (signals.signal_from, (("parts", SIGNAL, SIGNALS),)),
    (signals.wave, (("step", 5, STEPS),)),
    (signals.places_of, (("signal", SIGNAL, SIGNALS),)),
    (signals.waves_of, (("signal", SIGNAL, SIGNALS),)),
    (settling.rank_of, (("moments", (0, 3), LOTS), ("waves", (0, 1), LOTS))),
    (settling.settles, (("moments", (0, 3), LOTS), ("waves", (0, 1), LOTS))),
    (settling.signal_with,
     (("moments", (0, 1, 3), LOTS), ("waves", (0, 1), LOTS), ("values", SIGNAL[:3], VALUES))),
)


def all_parameters(parameters):
    return (("size", SIZE, SIZES),) + parameters


class ArgumentsTest(unittest.TestCase):
    def check_raised(self, function, arguments, wrong):
        value, error, attribute, expected = wrong
        with self.subTest(function=function.__name__, arguments=arguments):
            with self.assertRaises(errors.WaveError) as caught:
                function(*arguments)
            self.assertIs(type(caught.exception), error)
            if attribute == "given":
                self.assertIs(caught.exception.given, value)
            else:
                self.assertEqual(caught.exception.index, expected)
                self.assertIs(type(caught.exception.index), type(expected))

    def test_names_of_the_parameters(self):
        for function, parameters in FUNCTIONS:
            names = [name for name, _, _ in all_parameters(parameters)]
            self.assertEqual(list(signature(function).parameters), names)

    def test_right_ones_by_position_and_by_name(self):
        for function, parameters in FUNCTIONS:
            with self.subTest(function=function.__name__):
                named = {name: right for name, right, _ in all_parameters(parameters)}
                backwards = dict(reversed(list(named.items())))
                self.assertEqual(function(*named.values()), function(**backwards))

    def test_one_wrong(self):
        for function, parameters in FUNCTIONS:
            parameters = all_parameters(parameters)
            for at, (_, _, wrong_ones) in enumerate(parameters):
                for wrong in wrong_ones:
                    arguments = [right for _, right, _ in parameters]
                    arguments[at] = wrong[0]
                    self.check_raised(function, arguments, wrong)

    def test_two_wrong(self):
        for function, parameters in FUNCTIONS:
            parameters = all_parameters(parameters)
            for at, later in combinations(range(len(parameters)), 2):
                for wrong in parameters[at][2][::3]:
                    for other in parameters[later][2][::3]:
                        arguments = [right for _, right, _ in parameters]
                        arguments[at], arguments[later] = wrong[0], other[0]
                        self.check_raised(function, arguments, wrong)

    def test_all_wrong(self):
        for function, parameters in FUNCTIONS:
            self.check_raised(function, [13] + [None] * len(parameters), (13, errors.InvalidSize, "given", 13))

    def test_limits_move_with_the_size(self):
        for size in range(2, 13):
            with self.subTest(size=size):
                self.assertEqual(lots.beside(size, (size - 1,)), tuple(range(size - 1)))
                self.assertEqual(len(numbers.root(size, size - 1)), numbers.degree_of(size))
                self.assertEqual(few.least_by_line(size, size), 1)
                self.assertEqual(len(few.coset_signal(size, size, size - 1, size - 1)), size)
            lot = (size,)
            self.check_raised(lots.beside, (size, lot), (lot, errors.InvalidLot, "given", lot))
            self.check_raised(few.fewest_waves, (size, lot), (lot, errors.InvalidLot, "given", lot))
            self.check_raised(numbers.root, (size, size), (size, errors.InvalidIndex, "given", size))
            self.check_raised(few.least_by_line, (size, size + 1), (size + 1, errors.InvalidCount, "given", size + 1))
            self.check_raised(few.coset_signal, (size, size, size, 0), (size, errors.InvalidIndex, "given", size))
            self.check_raised(few.coset_signal, (size, 1, 1, 0), (1, errors.InvalidIndex, "given", 1))

    def test_divisors(self):
        for size in range(2, 13):
            for count in range(-1, 2 * size + 1):
                if 1 <= count <= size and size % count == 0:
                    self.assertEqual(len(few.coset_signal(size, count, count - 1, 0)), size)
                else:
                    wrong = (count, errors.InvalidCount, "given", count)
                    self.check_raised(few.coset_signal, (size, count, 0, 0), wrong)

    def test_lengths_of_values(self):
        for size in range(2, 13):
            number = numbers.root(size, 1)
            for length in range(size + 4):
                values = (number,) * length
                if length % 2 == 0 and 2 <= length <= size:
                    self.assertEqual(unknown.few_back(size, 0, values), (number,) * size)
                else:
                    self.check_raised(
                        unknown.few_back, (size, 0, values), (values, errors.InvalidValues, "index", None))

    def test_numbers_of_another_size(self):
        for size in range(2, 13):
            number = numbers.root(size, 1)
            for wrong in (number + (NIL,), number[:-1]):
                self.check_raised(
                    unknown.few_back, (size, 0, (number, wrong)), (wrong, errors.InvalidValues, "index", 1))
                signal = (wrong,) + (number,) * (size - 1)
                self.check_raised(few.is_coset_signal, (size, signal), (signal, errors.InvalidSignal, "index", 0))


class IsTest(unittest.TestCase):
    def test_is_size(self):
        for value, *_ in SIZES:
            self.assertIs(numbers.is_size(value), False)
        for value in range(2, 13):
            self.assertIs(numbers.is_size(value), True)

    def test_is_number(self):
        self.assertIs(numbers.is_number(SIZE, NUMBER), True)
        self.assertIs(numbers.is_number(SIZE, ((10 ** 300, 3 ** 200), (-7, 1))), True)
        for value in NO_NUMBERS:
            self.assertIs(numbers.is_number(SIZE, value), False)

    def test_is_lot(self):
        self.assertIs(lots.is_lot(SIZE, ()), True)
        self.assertIs(lots.is_lot(SIZE, (0, 1, 2, 3, 4, 5)), True)
        for value in NO_LOTS:
            self.assertIs(lots.is_lot(SIZE, value), False)


class TooManyTest(unittest.TestCase):
    """The number of lots of min(2 many, size) waves is 300 or fewer, or else it is told."""

    def check_too_many(self, size, moments, many):
        for function in (unknown.tells_few, unknown.clash):
            with self.subTest(function=function.__name__, size=size, moments=moments, many=many):
                with self.assertRaises(errors.TooMany) as caught:
                    function(size, moments, many)
                self.assertEqual(caught.exception.given, comb(size, min(2 * many, size)))

    def test_all_sizes(self):
        refused = []
        for size in range(2, 13):
            for many in range(1, size + 1):
                all_moments = tuple(range(size))
                if comb(size, min(2 * many, size)) > 300:
                    refused.append((size, many))
                    for moments in ((0,), (size - 1,), (1, 4, 6), all_moments[:-1], all_moments):
                        self.check_too_many(size, moments, many)
                else:
                    self.assertIs(unknown.tells_few(size, (0,), many), False)
                    self.assertIsNotNone(unknown.clash(size, (size - 1,), many))
        self.assertEqual(refused, [(11, 2), (11, 3), (12, 2), (12, 3), (12, 4)])

    def test_just_below(self):
        for size, many, lots_there in ((10, 2, 210), (10, 3, 210), (11, 4, 165), (12, 1, 66), (12, 5, 66), (12, 12, 1)):
            self.assertEqual(comb(size, min(2 * many, size)), lots_there)
            self.assertIs(unknown.tells_few(size, tuple(range(size)), many), True)
            self.assertIsNone(unknown.clash(size, tuple(range(size)), many))

    def test_last(self):
        for function in (unknown.tells_few, unknown.clash):
            for arguments, error in (
                ((13, (0,), 3), errors.InvalidSize), ((12, (), 3), errors.InvalidLot), ((12, (12,), 3), errors.InvalidLot),
                ((12, [0], 3), errors.InvalidLot), ((12, (0,), 13), errors.InvalidCount), ((12, (0,), 0), errors.InvalidCount),
                ((12, (0,), True), errors.InvalidCount), ((12, (0,), 3), errors.TooMany),
            ):
                with self.assertRaises(errors.WaveError) as caught:
                    function(*arguments)
                self.assertIs(type(caught.exception), error)


if __name__ == "__main__":
    unittest.main()
