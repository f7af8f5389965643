"""[2], [24]: of two claims just the one that is so, and a paper that is accepted for it alone."""

import random
import unittest
from math import comb

from tests import judge, papers, reckon
from wavespots import errors
from wavespots.certificates import (
    certify_every, certify_few, certify_pair, certify_partner, certify_settling, certify_signal, certify_survival,
    certify_told,
)
from wavespots.checker import accepts

# each with the claim that it makes if it has the first word, by the judge's names
FUNCTIONS = (
    (certify_settling, "settles"), (certify_survival, "survives"), (certify_every, "settles all"),
    (certify_few, "few waves"), (certify_signal, "places and waves"), (certify_pair, "even pair"),
    (certify_partner, "partner"), (certify_told, "told few"),
)
OTHERS = (6, 10, 12)
MOST_LOTS = 300


def all_arguments(word, size):
    form, lets_none = judge.FORMS[word]
    lots = reckon.lots(size, 0 if lets_none else 1)
    if form == judge.ONE_LOT:
        return [(lot,) for lot in lots]
    seconds = lots if form == judge.TWO_LOTS else range(0 if lets_none else 1, size + 1)
    return [(lot, second) for lot in lots for second in seconds]


def some_arguments(word, size, many):
    """All of the smallest sizes, drawn ones of the others, as far as they are let."""
    if size <= 4:
        return all_arguments(word, size)
    form, lets_none = judge.FORMS[word]
    lots = reckon.lots(size, 0 if lets_none else 1)
    counts = range(0 if lets_none else 1, size + 1)
    chance = random.Random(size)
    found = []
    while len(found) < many:
        arguments = (chance.choice(lots),)
        if form != judge.ONE_LOT:
            arguments += (chance.choice(lots if form == judge.TWO_LOTS else counts),)
        if judge.how_many(word, size, *arguments) <= MOST_LOTS:
            found.append(arguments)
    return found


class CertificatesTest(unittest.TestCase):
    def check(self, function, word, size, arguments, chance=None):
        with self.subTest(function=function.__name__, size=size, arguments=arguments):
            found = function(size, *arguments)
            self.assertEqual((type(found), len(found)), (tuple, 2))
            claim, paper = found
            self.assertEqual((type(claim), claim[1:]), (tuple, (size, *arguments)))
            for passed, told in zip((size, *arguments), claim[1:]):
                self.assertIs(told, passed)
            expected = word if judge.is_so((word, size, *arguments)) else judge.OPPOSITES[word]
            self.assertEqual(claim[0], expected)
            self.assertTrue(judge.accepts(claim, paper))
            self.assertIs(accepts(claim, paper), True)
            other = (judge.OPPOSITES[expected], size, *arguments)
            self.assertIs(accepts(other, paper), False)
            self.assertIs(accepts(other, ()), False)
            if chance is not None:
                paper = papers.for_claim(claim, chance)
                self.assertIs(accepts(claim, paper), True)
                self.assertIs(accepts(other, paper), False)
            return claim[0]

    def test_all_of_the_smallest_sizes(self):
        for function, word in FUNCTIONS:
            for size in (2, 3, 4):
                chance = random.Random(size)
                for arguments in all_arguments(word, size):
                    self.check(function, word, size, arguments, chance)

    def test_sizes_five_and_six(self):
        for function, word in FUNCTIONS:
            for size in (5, 6):
                chance = random.Random(size)
                for arguments in some_arguments(word, size, 250):
                    self.check(function, word, size, arguments, chance)

    def test_all_pairs_of_lots_of_size_five(self):
        for function, word in FUNCTIONS:
            if judge.FORMS[word][0] == judge.TWO_LOTS:
                for arguments in all_arguments(word, 5)[::2]:
                    self.check(function, word, 5, arguments)

    def test_greater_sizes(self):
        for function, word in FUNCTIONS:
            for size in range(7, 13):
                for arguments in some_arguments(word, size, 16):
                    self.check(function, word, size, arguments)

    def test_own_papers_of_greater_sizes(self):
        for function, word in FUNCTIONS:
            for size in range(7, 13):
                chance = random.Random(size)
                few = [each for each in some_arguments(word, size, 40) if len(each[0]) < 5]
                for arguments in few[:3]:
                    self.check(function, word, size, arguments, chance)

    def test_both_words_are_told(self):
        for function, word in FUNCTIONS:
            for size in (4, 6, 8, 9):
                found = {function(size, *arguments)[0][0] for arguments in some_arguments(word, size, 60)}
                self.assertEqual(found, {word, judge.OPPOSITES[word]})

    def test_prime_sizes(self):
        for size in (2, 3, 5, 7, 11):
            for arguments in some_arguments("settles all", size, 60):
                self.assertEqual(self.check(certify_every, "settles all", size, arguments), "settles all")
            for moments, steps in some_arguments("settles", size, 40):
                claim, _ = certify_settling(size, moments, steps)
                self.assertEqual(claim[0], "settles" if len(moments) >= len(steps) else "unseen")
            for moments, many in some_arguments("few waves", size, 40):
                claim, _ = certify_few(size, moments, many)
                self.assertEqual(claim[0], "few waves" if len(moments) + many <= size + 1 else "fewer waves")
            for moments, steps in some_arguments("places and waves", size, 20):
                claim, _ = certify_signal(size, moments, steps)
                expected = len(moments) + len(steps) > size
                self.assertEqual(claim[0], "places and waves" if expected else "no such signal")

    def test_none_one_and_all(self):
        for function, word in FUNCTIONS:
            form, lets_none = judge.FORMS[word]
            for size in (2, 7, 9, 12):
                lots = ((0,), (size - 1,), tuple(range(size))) + (((),) if lets_none else ())
                counts = (1, size) + ((0,) if lets_none else ())
                for lot in lots:
                    if form == judge.ONE_LOT:
                        self.check(function, word, size, (lot,))
                    for second in lots if form == judge.TWO_LOTS else counts if form == judge.LOT_AND_COUNT else ():
                        self.check(function, word, size, (lot, second))

    def test_by_name(self):
        self.assertEqual(certify_settling(waves=(0, 1), moments=(0, 2), size=4), certify_settling(4, (0, 2), (0, 1)))
        self.assertEqual(certify_survival(many=2, waves=(0, 2), size=4), certify_survival(4, (0, 2), 2))
        self.assertEqual(certify_every(moments=(0, 2), size=4), certify_every(4, (0, 2)))
        self.assertEqual(certify_few(many=3, moments=(0, 2), size=4), certify_few(4, (0, 2), 3))
        self.assertEqual(certify_signal(waves=(0, 2), moments=(0, 2), size=4), certify_signal(4, (0, 2), (0, 2)))
        self.assertEqual(certify_pair(waves=(0, 2), moments=(0, 2), size=4), certify_pair(4, (0, 2), (0, 2)))
        self.assertEqual(certify_partner(moments=(0, 2), size=4), certify_partner(4, (0, 2)))
        self.assertEqual(certify_told(many=1, moments=(0, 2), size=4), certify_told(4, (0, 2), 1))


class TooManyTest(unittest.TestCase):
    """The errors are those of the functions that are named: also where a paper could be told."""

    def check_too_many(self, function, arguments, there):
        with self.subTest(function=function.__name__, arguments=arguments):
            with self.assertRaises(errors.TooMany) as caught:
                function(*arguments)
            self.assertIs(type(caught.exception), errors.TooMany)
            self.assertEqual(caught.exception.given, there)

    def test_survival(self):
        for size in reckon.SIZES:
            for many in range(size + 1):
                there = comb(size, many)
                for steps in ((), (0,), tuple(range(size))):
                    if there > MOST_LOTS:
                        self.check_too_many(certify_survival, (size, steps, many), there)
                    else:
                        claim, paper = certify_survival(size, steps, many)
                        self.assertEqual(claim[0], "survives" if many == 0 or len(steps) < 2 and many < size or
                                         steps == () else "lost")
                        self.assertIs(accepts(claim, paper), True)

    def test_every(self):
        for size in reckon.SIZES:
            for many in range(size + 1):
                there = comb(size, many)
                for moments in (tuple(range(many)), tuple(range(size - many, size)), tuple(range(0, size, 2))):
                    if len(moments) == many:
                        if there > MOST_LOTS and size in OTHERS:
                            self.check_too_many(certify_every, (size, moments), there)
                        else:
                            claim, paper = certify_every(size, moments)
                            self.assertEqual(claim[0], "settles all" if reckon.is_even(size, moments) else "broken")
                            self.assertIs(accepts(claim, paper), True)

    def test_told(self):
        for size in reckon.SIZES:
            for many in range(1, size + 1):
                there = comb(size, min(2 * many, size))
                for moments in ((0,), tuple(range(size))):
                    if there > MOST_LOTS:
                        self.check_too_many(certify_told, (size, moments, many), there)
                    else:
                        claim, paper = certify_told(size, moments, many)
                        self.assertEqual(claim[0], "clashing" if len(moments) == 1 else "told few")
                        self.assertIs(accepts(claim, paper), True)

    def test_never(self):
        whole = tuple(range(12))
        for function in (certify_settling, certify_signal, certify_pair):
            claim, paper = function(12, whole[:6], whole[6:])
            self.assertIs(accepts(claim, paper), True)
        for many in range(1, 13):
            claim, paper = certify_few(12, whole[:6], many)
            self.assertEqual((claim[0], accepts(claim, paper)), ("few waves" if many < 8 else "fewer waves", True))
        for moments in (whole[:6], (0, 1, 2, 6, 7, 8), (0, 1, 2, 4, 6, 8)):
            claim, paper = certify_partner(12, moments)
            self.assertIs(accepts(claim, paper), True)


if __name__ == "__main__":
    unittest.main()
