"""Wrong arguments, one by one and two together, and right ones at the limits."""

import unittest
from inspect import signature
from itertools import combinations
from math import comb, gcd
from unittest.mock import ANY

from wavespots import (
    certificates, checker, errors, every, few, lost, lots, numbers, pairs, settling, signals, unknown,
)

SIZE = 6
NIL, ONE, HALF = (0, 1), (1, 1), (-1, 2)
NUMBER = (ONE, HALF)
SIGNAL = (NUMBER, (NIL, NIL), NUMBER, (NIL, ONE), NUMBER, (HALF, HALF))
# ANY calls itself equal to whatever it is compared with
NO_WHOLE = (ANY, True, False, None, "1", b"1", (), (1,), ((1,),), [1], {1}, {1: 1}, object(), len, errors.WaveError)
NO_NUMBERS = (
    ANY, (ANY, ANY), (ONE, ANY), ((1, ANY), ONE), None, True, 0, 1, "number", b"no", (), [], {}, object(), ONE, (ONE,), (ONE, ONE, ONE), [ONE, ONE], (ONE, None),
    (1, ONE), (ONE, 0), (ONE, True), (ONE, [1, 1]), (ONE, (1,)), (ONE, (1, 1, 1)), (ONE, ()), (ONE, "11"), ((0, 2), ONE),
    ((2, 4), ONE), (ONE, (-3, 3)), ((1, 0), ONE), ((0, 0), ONE), (ONE, (1, -1)), ((-1, -2), ONE), ((True, 1), ONE),
    (ONE, (1, True)), (ONE, (None, 1)), (ONE, (1, "1")), (NUMBER, NUMBER), ((ONE, ONE), ONE),
    ((10 ** 300, 10 ** 300), ONE),
)
NO_LOTS = (
    ANY, (ANY,), (0, ANY), True, None, 0, 3, "012", b"\x00\x01", [], [0, 2], {0, 2}, {0: 2}, range(3), object(), len,
    (2, 0), (0, 2, 1), (5, 4, 3), (0, 0), (0, 2, 2), (0, 0, 1), (6,), (0, 6), (0, 1, 2, 3, 4, 5, 6), (-1,), (-1, 0),
    (0, True), (False, 1), (False,), (None,), (0, None), (0, "1"), ("0",), ((0,),), (0, (1,)), ([0],), (0, 10 ** 399),
)


NO_FRACTIONS = (
    ANY, (1, ANY), (ANY, 1), None, True, 0, 1, "11", b"11", (), [], {}, object(), (1,), (1, 1, 1), [1, 1], (0, 2), (2, 4), (-3, 3), (1, 0), (0, 0),
    (0, -1), (1, -1), (-1, -2), (1, -10 ** 399), (True, 1), (1, True), (False, 1), (None, 1), (1, None), ("1", 1),
    (1, "1"), ((1, 1), (1, 1)), (ONE,), NUMBER, (10 ** 300, 10 ** 300),
)


def given(error, values):
    return [(value, error, "given", value) for value in values]


def rows(error, right, lengths, wrong_ones=NO_NUMBERS):
    """Wrong rows of numbers or fractions; lengths are those that are wrong by themselves."""
    found = [(value, error, "index", None) for value in NO_WHOLE + (list(right), "number", dict(enumerate(right)))
             if value != () or 0 in lengths]
    for length in lengths:
        found.append(((right[0],) * length, error, "index", None))
        found.append(((None,) * length, error, "index", None))
    for at in range(len(right)):
        for wrong in wrong_ones:
            found.append((right[:at] + (wrong,) + right[at + 1:], error, "index", at))
    for at, later in combinations(range(len(right)), 2):
        for wrong, other in (((ONE,), None), (None, 7), (True, (ONE, ONE, ONE))):
            row = list(right)
            row[at], row[later] = wrong, other
            found.append((tuple(row), error, "index", at))
    return found


SIZES = given(errors.InvalidSize, NO_WHOLE + (-2, 0, 1, 13, 14, 10 ** 399, -10 ** 399))
STEPS = given(errors.InvalidIndex, NO_WHOLE + (-1, SIZE, SIZE + 1, 10 ** 399, -10 ** 399))
COUNTS = given(errors.InvalidCount, NO_WHOLE + (0, -1, SIZE + 1, 10 ** 399, -10 ** 399))
LOST = given(errors.InvalidCount, NO_WHOLE + (-1, -2, SIZE + 1, SIZE + 2, 10 ** 399, -10 ** 399))
DIVISORS = given(errors.InvalidCount, NO_WHOLE + (0, -1, -3, 4, 5, SIZE + 1, 2 * SIZE, 10 ** 399))
STARTS = given(errors.InvalidIndex, NO_WHOLE + (-1, 3, 4, SIZE, 10 ** 399))
FACTORS = given(errors.InvalidIndex, NO_WHOLE + (-5, -1, 0, 2, 3, 4, SIZE, SIZE + 1, 10 ** 399, -10 ** 399 - 1))
NUMBERS = given(errors.InvalidNumber, NO_NUMBERS)
TURNS = rows(errors.InvalidTurns, (ONE, NIL, HALF, (7, 5), NIL, (-10 ** 300, 3 ** 200)), (0, 1, 2, SIZE - 1, SIZE + 1),
             NO_FRACTIONS)
LOTS = given(errors.InvalidLot, NO_LOTS)
FULL_LOTS = LOTS + given(errors.InvalidLot, ((),))
SIGNALS = rows(errors.InvalidSignal, SIGNAL, (0, 1, SIZE - 1, SIZE + 1))
FEW_VALUES = rows(errors.InvalidValues, SIGNAL[:4], (0, 1, 3, 5, 7, 8, 12))
VALUES = rows(errors.InvalidValues, SIGNAL[:3], (0, 1, 2, 4))

# for each function: for each parameter its name, a right argument, and wrong ones
FUNCTIONS = (
    (few.coset_signal, (("divisor", 3, DIVISORS), ("start", 2, STARTS), ("step", 5, STEPS))),
    (few.is_coset_signal, (("signal", SIGNAL, SIGNALS),)),
    (few.least_by_line, (("many", 4, COUNTS),)),
    (few.fewest_waves, (("moments", (0, 2), FULL_LOTS),)),
    (few.signal_on, (("moments", (0, 2), FULL_LOTS), ("waves", (1, 4), FULL_LOTS))),
    (pairs.zero_steps, (("moments", (0, 3), FULL_LOTS),)),
    (pairs.is_even_pair, (("moments", (0, 3), FULL_LOTS), ("waves", (0, 1), FULL_LOTS))),
    (pairs.even_pair_of, (("moments", (0, 3), FULL_LOTS),)),
    (pairs.parts_in, (("moments", (0, 3), FULL_LOTS),)),
    (pairs.has_first_sign, (("moments", (0, 3), FULL_LOTS),)),
    (pairs.has_second_sign, (("moments", (0, 3), FULL_LOTS),)),
    (pairs.partner_of, (("moments", (0, 3), FULL_LOTS),)),
    (unknown.tells_few, (("moments", (0, 1, 3), FULL_LOTS), ("many", 2, COUNTS))),
    (unknown.clash, (("moments", (0, 1, 3), FULL_LOTS), ("many", 2, COUNTS))),
    (unknown.few_back, (("start", 5, STEPS), ("values", SIGNAL[:4], FEW_VALUES))),
    (numbers.round_polynomial, ()),
    (numbers.degree_of, ()),
    (numbers.is_number, (("value", NUMBER, []),)),
    (numbers.root, (("step", 5, STEPS),)),
    (numbers.number_from, (("turns", (ONE, NIL, HALF, (7, 5), NIL, (-10 ** 300, 3 ** 200)), TURNS),)),
    (numbers.plus, (("number", NUMBER, NUMBERS), ("other", (HALF, NIL), NUMBERS))),
    (numbers.times, (("number", NUMBER, NUMBERS), ("other", (HALF, NIL), NUMBERS))),
    (numbers.mirrored, (("number", NUMBER, NUMBERS),)),
    (numbers.over, (("number", NUMBER, NUMBERS), ("other", (HALF, NIL), NUMBERS))),
    (lots.is_lot, (("value", (0, 3), []),)),
    (lots.beside, (("lot", (0, 3), LOTS),)),
    (lots.lot_moved, (("lot", (0, 3), LOTS), ("step", 5, STEPS))),
    (lots.lot_times, (("lot", (0, 3), LOTS), ("factor", 5, FACTORS))),
    (lots.rests, (("lot", (0, 3), LOTS), ("many", 3, DIVISORS))),
    (signals.is_signal, (("value", SIGNAL, []),)),
    (signals.moved, (("signal", SIGNAL, SIGNALS), ("step", 5, STEPS))),
    (signals.turned, (("signal", SIGNAL, SIGNALS), ("step", 5, STEPS))),
    (signals.round_product, (("signal", SIGNAL, SIGNALS), ("other", SIGNAL[::-1], SIGNALS))),
    (signals.energy, (("signal", SIGNAL, SIGNALS),)),
    (signals.parts_of, (("signal", SIGNAL, SIGNALS),)),
    (signals.signal_from, (("parts", SIGNAL, SIGNALS),)),
    (signals.wave, (("step", 5, STEPS),)),
    (signals.places_of, (("signal", SIGNAL, SIGNALS),)),
    (signals.waves_of, (("signal", SIGNAL, SIGNALS),)),
    (settling.table_of, (("moments", (0, 3), LOTS), ("waves", (0, 1), LOTS))),
    (settling.way_back, (("moments", (0, 2), LOTS), ("waves", (0, 1), LOTS))),
    (settling.first_moments, (("moments", (0, 3), LOTS), ("waves", (0, 1), LOTS))),
    (settling.first_waves, (("moments", (0, 3), LOTS), ("waves", (0, 1), LOTS))),
    (every.is_even, (("moments", (0, 3), LOTS),)),
    (every.settles_all, (("moments", (0, 3), LOTS),)),
    (every.broken_lot, (("moments", (0, 3), LOTS),)),
    (certificates.certify_settling, (("moments", (0, 3), LOTS), ("waves", (0, 1), LOTS))),
    (certificates.certify_survival, (("waves", (0, 3), LOTS), ("many", 2, LOST))),
    (certificates.certify_every, (("moments", (0, 3), LOTS),)),
    (certificates.certify_few, (("moments", (0, 3), FULL_LOTS), ("many", 3, COUNTS))),
    (certificates.certify_signal, (("moments", (0, 2), FULL_LOTS), ("waves", (1, 4), FULL_LOTS))),
    (certificates.certify_pair, (("moments", (0, 3), FULL_LOTS), ("waves", (0, 1), FULL_LOTS))),
    (certificates.certify_partner, (("moments", (0, 3), FULL_LOTS),)),
    (certificates.certify_told, (("moments", (0, 1, 3), FULL_LOTS), ("many", 2, COUNTS))),
    (settling.rank_of, (("moments", (0, 3), LOTS), ("waves", (0, 1), LOTS))),
    (settling.settles, (("moments", (0, 3), LOTS), ("waves", (0, 1), LOTS))),
    (settling.unseen, (("moments", (0, 3), LOTS), ("waves", (0, 1), LOTS))),
    (lost.survives, (("waves", (0, 3), LOTS), ("many", 2, LOST))),
    (lost.lost_signal, (("waves", (0, 3), LOTS), ("many", 2, LOST))),
    (settling.signal_with,
     (("moments", (0, 1, 3), LOTS), ("waves", (0, 1), LOTS), ("values", SIGNAL[:3], VALUES))),
)


def all_parameters(parameters):
    return (("size", SIZE, SIZES),) + parameters


class ArgumentsTest(unittest.TestCase):
    def check_raised(self, function, arguments, wrong):
        value, error, attribute, expected = wrong
        with self.subTest(function=function.__name__, arguments=arguments):
            with self.assertRaises(errors.WaveError) as caught:
                function(*arguments)
            self.assertIs(type(caught.exception), error)
            if attribute == "given":
                self.assertIs(caught.exception.given, value)
            else:
                self.assertEqual(caught.exception.index, expected)
                self.assertIs(type(caught.exception.index), type(expected))

    def test_names_of_the_parameters(self):
        for function, parameters in FUNCTIONS:
            names = [name for name, _, _ in all_parameters(parameters)]
            self.assertEqual(list(signature(function).parameters), names)

    def test_each_function_is_defined_in_its_file(self):
        modules = (certificates, checker, every, few, lost, lots, numbers, pairs, settling, signals, unknown)
        for function in [function for function, _ in FUNCTIONS] + [numbers.is_size, checker.accepts]:
            there = [module for module in modules if module.__name__ == function.__module__]
            self.assertEqual([getattr(module, function.__name__) for module in there], [function])

    def test_all_functions_are_there(self):
        for module, names in (
            (numbers, "is_size degree_of round_polynomial is_number root number_from plus times mirrored over"),
            (signals, "is_signal parts_of signal_from wave moved turned round_product energy places_of waves_of"),
            (lots, "is_lot beside lot_moved lot_times rests"),
            (settling, "table_of rank_of settles unseen way_back signal_with first_moments first_waves"),
            (lost, "survives lost_signal"),
            (every, "is_even settles_all broken_lot"),
            (few, "coset_signal is_coset_signal least_by_line fewest_waves signal_on"),
            (pairs, "zero_steps is_even_pair even_pair_of parts_in has_first_sign has_second_sign partner_of"),
            (unknown, "tells_few clash few_back"),
            (checker, "accepts"),
            (certificates, "certify_settling certify_survival certify_every certify_few certify_signal certify_pair "
                           "certify_partner certify_told"),
        ):
            for name in names.split():
                self.assertEqual(getattr(module, name).__module__, module.__name__)
                without_errors = [numbers.is_size, checker.accepts]
                self.assertIn(getattr(module, name), [function for function, _ in FUNCTIONS] + without_errors)

    def test_names_where_nothing_is_refused(self):
        self.assertEqual(list(signature(checker.accepts).parameters), ["claim", "paper"])
        self.assertEqual(list(signature(numbers.is_size).parameters), ["value"])

    def test_equal_calls_return_equal_results(self):
        for function, parameters in FUNCTIONS:
            arguments = [right for _, right, _ in all_parameters(parameters)]
            copies = [tuple(list(right)) if isinstance(right, tuple) else right for right in arguments]
            self.assertEqual(function(*arguments), function(*copies))

    def test_right_ones_by_position_and_by_name(self):
        for function, parameters in FUNCTIONS:
            with self.subTest(function=function.__name__):
                named = {name: right for name, right, _ in all_parameters(parameters)}
                backwards = dict(reversed(list(named.items())))
                self.assertEqual(function(*named.values()), function(**backwards))

    def test_one_wrong(self):
        for function, parameters in FUNCTIONS:
            parameters = all_parameters(parameters)
            for at, (_, _, wrong_ones) in enumerate(parameters):
                for wrong in wrong_ones:
                    arguments = [right for _, right, _ in parameters]
                    arguments[at] = wrong[0]
                    self.check_raised(function, arguments, wrong)

    def test_two_wrong(self):
        for function, parameters in FUNCTIONS:
            parameters = all_parameters(parameters)
            for at, later in combinations(range(len(parameters)), 2):
                for wrong in parameters[at][2][::3]:
                    for other in parameters[later][2][::3]:
                        arguments = [right for _, right, _ in parameters]
                        arguments[at], arguments[later] = wrong[0], other[0]
                        self.check_raised(function, arguments, wrong)

    def test_all_wrong(self):
        for function, parameters in FUNCTIONS:
            self.check_raised(function, [13] + [None] * len(parameters), (13, errors.InvalidSize, "given", 13))

    def test_limits_move_with_the_size(self):
        for size in range(2, 13):
            with self.subTest(size=size):
                self.assertEqual(lots.beside(size, (size - 1,)), tuple(range(size - 1)))
                self.assertEqual(len(numbers.root(size, size - 1)), numbers.degree_of(size))
                self.assertEqual(few.least_by_line(size, size), 1)
                self.assertEqual(len(few.coset_signal(size, size, size - 1, size - 1)), size)
            lot = (size,)
            self.check_raised(lots.beside, (size, lot), (lot, errors.InvalidLot, "given", lot))
            self.check_raised(few.fewest_waves, (size, lot), (lot, errors.InvalidLot, "given", lot))
            self.check_raised(numbers.root, (size, size), (size, errors.InvalidIndex, "given", size))
            self.check_raised(few.least_by_line, (size, size + 1), (size + 1, errors.InvalidCount, "given", size + 1))
            self.check_raised(few.coset_signal, (size, size, size, 0), (size, errors.InvalidIndex, "given", size))
            self.check_raised(few.coset_signal, (size, 1, 1, 0), (1, errors.InvalidIndex, "given", 1))

    def test_divisors(self):
        for size in range(2, 13):
            for count in range(-1, 2 * size + 1):
                if 1 <= count <= size and size % count == 0:
                    self.assertEqual(len(few.coset_signal(size, count, count - 1, 0)), size)
                else:
                    wrong = (count, errors.InvalidCount, "given", count)
                    self.check_raised(few.coset_signal, (size, count, 0, 0), wrong)

    def test_divisors_of_rests(self):
        for size in range(2, 13):
            for count in range(-1, 2 * size + 1):
                if 1 <= count <= size and size % count == 0:
                    self.assertEqual(lots.rests(size, (size - 1,), count), (0,) * (count - 1) + (1,))
                else:
                    self.check_raised(lots.rests, (size, (), count), (count, errors.InvalidCount, "given", count))

    def test_factors(self):
        for size in range(2, 13):
            for factor in range(-size, 2 * size + 1):
                if 1 <= factor < size and gcd(factor, size) == 1:
                    self.assertEqual(lots.lot_times(size, (1,), factor), (factor,))
                else:
                    wrong = (factor, errors.InvalidIndex, "given", factor)
                    self.check_raised(lots.lot_times, (size, (1,), factor), wrong)
                    self.check_raised(lots.lot_times, (size, (), factor), wrong)

    def test_steps(self):
        for size in range(2, 13):
            signal = (numbers.root(size, 1),) * size
            for step in range(-2, size + 3):
                for function, thing in ((signals.moved, signal), (signals.turned, signal), (lots.lot_moved, (0,))):
                    if 0 <= step < size:
                        self.assertEqual(len(function(size, thing, step)), len(thing))
                    else:
                        self.check_raised(function, (size, thing, step), (step, errors.InvalidIndex, "given", step))

    def test_counts(self):
        for size in range(2, 11):
            for function in (certificates.certify_few, certificates.certify_told):
                for many in range(-2, size + 3):
                    if 1 <= many <= size:
                        function(size, (0,), many)
                    else:
                        wrong = (many, errors.InvalidCount, "given", many)
                        self.check_raised(function, (size, (0,), many), wrong)

    def test_no_lots(self):
        """() is let or not, whatever the size is."""
        for size in range(2, 13):
            for function, more in (
                (settling.table_of, ((),)), (settling.rank_of, ((),)), (settling.settles, ((),)), (settling.unseen, ((),)),
                (settling.way_back, ((),)), (settling.signal_with, ((), ())), (settling.first_moments, ((),)),
                (settling.first_waves, ((),)), (every.is_even, ()), (every.settles_all, ()), (every.broken_lot, ()),
                (lost.survives, (0,)), (lost.lost_signal, (0,)), (certificates.certify_settling, ((),)),
                (certificates.certify_survival, (0,)), (certificates.certify_every, ()),
            ):
                function(size, (), *more)
            for function, more in (
                (certificates.certify_few, (1,)), (certificates.certify_signal, ((0,),)), (certificates.certify_pair, ((0,),)),
                (certificates.certify_partner, ()), (certificates.certify_told, (1,)), (few.fewest_waves, ()),
                (few.signal_on, ((0,),)), (pairs.is_even_pair, ((0,),)), (pairs.partner_of, ()), (unknown.tells_few, (1,)),
            ):
                self.check_raised(function, (size, (), *more), ((), errors.InvalidLot, "given", ()))
            for function in (certificates.certify_signal, certificates.certify_pair, few.signal_on, pairs.is_even_pair):
                self.check_raised(function, (size, (0,), ()), ((), errors.InvalidLot, "given", ()))

    def test_lengths_of_values_at_moments(self):
        for size in range(2, 13):
            number = numbers.root(size, 0)
            for many in range(size + 1):
                moments = tuple(range(many))
                for length in range(size + 2):
                    values = (number,) * length
                    if length == many:
                        self.assertEqual(settling.signal_with(size, moments, (0,), values)[:many], values)
                    else:
                        wrong = (values, errors.InvalidValues, "index", None)
                        self.check_raised(settling.signal_with, (size, moments, (0,), values), wrong)

    def test_counts_of_lost_moments(self):
        for function in (lost.survives, lost.lost_signal, certificates.certify_survival):
            for size in range(2, 11):
                for many in range(-2, size + 3):
                    if 0 <= many <= size:
                        function(size, (), many)
                    else:
                        wrong = (many, errors.InvalidCount, "given", many)
                        self.check_raised(function, (size, (0,), many), wrong)

    def test_lengths_of_turns_and_signals(self):
        for size in range(2, 13):
            number = numbers.root(size, 1)
            for length in range(size + 4):
                turns, signal = (ONE,) * length, (number,) * length
                self.assertIs(signals.is_signal(size, signal), length == size)
                if length != size:
                    self.check_raised(numbers.number_from, (size, turns), (turns, errors.InvalidTurns, "index", None))
                    wrong = (signal, errors.InvalidSignal, "index", None)
                    self.check_raised(signals.energy, (size, signal), wrong)
                    self.check_raised(signals.signal_from, (size, signal), wrong)
                    self.check_raised(signals.round_product, (size, (number,) * size, signal), wrong)

    def test_lengths_of_numbers(self):
        for size in range(2, 13):
            degree = numbers.degree_of(size)
            for length in range(degree + 3):
                number = (ONE,) * length
                self.assertIs(numbers.is_number(size, number), length == degree)
                if length != degree:
                    wrong = (number, errors.InvalidNumber, "given", number)
                    self.check_raised(numbers.mirrored, (size, number), wrong)
                    for function in (numbers.plus, numbers.times, numbers.over):
                        self.check_raised(function, (size, number, (ONE,) * degree), wrong)
                        self.check_raised(function, (size, (ONE,) * degree, number), wrong)

    def test_lengths_of_values(self):
        for size in range(2, 13):
            number = numbers.root(size, 1)
            for length in range(size + 4):
                values = (number,) * length
                if length % 2 == 0 and 2 <= length <= size:
                    self.assertEqual(unknown.few_back(size, 0, values), (number,) * size)
                else:
                    self.check_raised(
                        unknown.few_back, (size, 0, values), (values, errors.InvalidValues, "index", None))

    def test_numbers_of_another_size(self):
        for size in range(2, 13):
            number = numbers.root(size, 1)
            for wrong in (number + (NIL,), number[:-1]):
                self.check_raised(
                    unknown.few_back, (size, 0, (number, wrong)), (wrong, errors.InvalidValues, "index", 1))
                signal = (wrong,) + (number,) * (size - 1)
                for function in (few.is_coset_signal, signals.energy, signals.parts_of, signals.signal_from):
                    self.check_raised(function, (size, signal), (signal, errors.InvalidSignal, "index", 0))
                late = (number,) * (size - 1) + (wrong,)
                self.check_raised(signals.moved, (size, late, 0), (late, errors.InvalidSignal, "index", size - 1))
                self.check_raised(
                    signals.round_product, (size, late, signal), (late, errors.InvalidSignal, "index", size - 1))
                self.check_raised(numbers.mirrored, (size, wrong), (wrong, errors.InvalidNumber, "given", wrong))


class IsTest(unittest.TestCase):
    def test_is_size(self):
        for value, *_ in SIZES:
            self.assertIs(numbers.is_size(value), False)
        for value in range(2, 13):
            self.assertIs(numbers.is_size(value), True)

    def test_is_number(self):
        self.assertIs(numbers.is_number(SIZE, NUMBER), True)
        self.assertIs(numbers.is_number(SIZE, ((10 ** 300, 3 ** 200), (-7, 1))), True)
        for value in NO_NUMBERS:
            self.assertIs(numbers.is_number(SIZE, value), False)

    def test_is_signal(self):
        self.assertIs(signals.is_signal(SIZE, SIGNAL), True)
        for value, *_ in SIGNALS:
            self.assertIs(signals.is_signal(SIZE, value), False)

    def test_is_lot(self):
        self.assertIs(lots.is_lot(SIZE, ()), True)
        self.assertIs(lots.is_lot(SIZE, (0, 1, 2, 3, 4, 5)), True)
        for value in NO_LOTS:
            self.assertIs(lots.is_lot(SIZE, value), False)


class NoDivisorTest(unittest.TestCase):
    def test_nought_by_each_size(self):
        for size in range(2, 13):
            nil = (NIL,) * numbers.degree_of(size)
            for number in (numbers.root(size, 1), nil, ((10 ** 399, 3),) + nil[1:]):
                with self.assertRaises(errors.NoDivisor):
                    numbers.over(size, number, nil)
            self.assertEqual(numbers.over(size, nil, numbers.root(size, 1)), nil)

    def test_last(self):
        nil = (NIL, NIL)
        for arguments, error in (
            ((1, NUMBER, nil), errors.InvalidSize), ((13, None, nil), errors.InvalidSize),
            ((True, nil, nil), errors.InvalidSize), ((SIZE, None, nil), errors.InvalidNumber),
            ((SIZE, (ONE,), nil), errors.InvalidNumber), ((SIZE, (ONE, (0, 2)), nil), errors.InvalidNumber),
            ((SIZE, list(NUMBER), nil), errors.InvalidNumber), ((SIZE, NUMBER, (NIL, (0, 2))), errors.InvalidNumber),
            ((SIZE, NUMBER, [NIL, NIL]), errors.InvalidNumber), ((SIZE, NUMBER, (NIL,)), errors.InvalidNumber),
            ((SIZE, NUMBER, 0), errors.InvalidNumber), ((SIZE, NUMBER, NIL), errors.InvalidNumber),
            ((SIZE, NUMBER, nil), errors.NoDivisor),
        ):
            with self.assertRaises(errors.WaveError) as caught:
                numbers.over(*arguments)
            self.assertIs(type(caught.exception), error)


class TooManyLostTest(unittest.TestCase):
    """The number of lots of so many moments is 300 or fewer, or else it is told."""

    def some_waves(self, size):
        whole = tuple(range(size))
        return ((), (0,), (size - 1,), (0, 1), (1, 4, 6), whole[::2], whole[:-1], whole)

    def test_all_sizes(self):
        refused = []
        for size in range(2, 13):
            for many in range(size + 1):
                there = comb(size, many)
                if there <= 300:
                    self.assertIs(lost.survives(size, (), many), True)
                    self.assertIsNone(lost.lost_signal(size, (), many))
                    self.assertIs(lost.survives(size, (0,), many), many < size)
                    continue
                refused.append((size, many, there))
                for waves in self.some_waves(size):
                    for function in (lost.survives, lost.lost_signal):
                        with self.assertRaises(errors.TooMany) as caught:
                            function(size, waves, many)
                        self.assertEqual(caught.exception.given, there)
        self.assertEqual(refused, [
            (11, 4, 330), (11, 5, 462), (11, 6, 462), (11, 7, 330), (12, 4, 495), (12, 5, 792), (12, 6, 924), (12, 7, 792),
            (12, 8, 495),
        ])

    def test_just_below(self):
        for size, many, there in ((10, 5, 252), (12, 3, 220), (12, 9, 220), (11, 3, 165), (11, 8, 165), (12, 12, 1)):
            self.assertEqual(comb(size, many), there)
            self.assertIs(lost.survives(size, (0,), many), many < size)
            self.assertIs(lost.survives(size, tuple(range(size)), many), False)
            self.assertIsNotNone(lost.lost_signal(size, tuple(range(size)), many))

    def test_last(self):
        for function in (lost.survives, lost.lost_signal, certificates.certify_survival):
            for arguments, error in (
                ((13, (0,), 4), errors.InvalidSize), ((12, (12,), 4), errors.InvalidLot),
                ((12, [0], 4), errors.InvalidLot), ((12, None, 13), errors.InvalidLot),
                ((12, (0,), 13), errors.InvalidCount), ((12, (0,), -1), errors.InvalidCount),
                ((12, (0,), True), errors.InvalidCount), ((12, (0,), "4"), errors.InvalidCount),
                ((12, (0,), 4), errors.TooMany), ((12, (), 4), errors.TooMany),
            ):
                with self.assertRaises(errors.WaveError) as caught:
                    function(*arguments)
                self.assertIs(type(caught.exception), error)


class TooManyTest(unittest.TestCase):
    """The number of lots of min(2 many, size) waves is 300 or fewer, or else it is told."""

    def check_too_many(self, size, moments, many):
        for function in (unknown.tells_few, unknown.clash):
            with self.subTest(function=function.__name__, size=size, moments=moments, many=many):
                with self.assertRaises(errors.TooMany) as caught:
                    function(size, moments, many)
                self.assertEqual(caught.exception.given, comb(size, min(2 * many, size)))

    def test_all_sizes(self):
        refused = []
        for size in range(2, 13):
            for many in range(1, size + 1):
                all_moments = tuple(range(size))
                if comb(size, min(2 * many, size)) > 300:
                    refused.append((size, many))
                    for moments in ((0,), (size - 1,), (1, 4, 6), all_moments[:-1], all_moments):
                        self.check_too_many(size, moments, many)
                else:
                    self.assertIs(unknown.tells_few(size, (0,), many), False)
                    self.assertIsNotNone(unknown.clash(size, (size - 1,), many))
        self.assertEqual(refused, [(11, 2), (11, 3), (12, 2), (12, 3), (12, 4)])

    def test_just_below(self):
        for size, many, lots_there in ((10, 2, 210), (10, 3, 210), (11, 4, 165), (12, 1, 66), (12, 5, 66), (12, 12, 1)):
            self.assertEqual(comb(size, min(2 * many, size)), lots_there)
            self.assertIs(unknown.tells_few(size, tuple(range(size)), many), True)
            self.assertIsNone(unknown.clash(size, tuple(range(size)), many))

    def test_last(self):
        for function in (unknown.tells_few, unknown.clash, certificates.certify_told):
            for arguments, error in (
                ((13, (0,), 3), errors.InvalidSize), ((12, (), 3), errors.InvalidLot), ((12, (12,), 3), errors.InvalidLot),
                ((12, [0], 3), errors.InvalidLot), ((12, (0,), 13), errors.InvalidCount), ((12, (0,), 0), errors.InvalidCount),
                ((12, (0,), True), errors.InvalidCount), ((12, (0,), 3), errors.TooMany),
            ):
                with self.assertRaises(errors.WaveError) as caught:
                    function(*arguments)
                self.assertIs(type(caught.exception), error)


if __name__ == "__main__":
    unittest.main()
