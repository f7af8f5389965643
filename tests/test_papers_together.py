"""What [15] to [23] say of the papers and claims: the modules that tell them, and the others."""

import random
import unittest
from itertools import combinations

from tests import reckon
from wavespots.certificates import (
    certify_every, certify_few, certify_pair, certify_partner, certify_settling, certify_signal, certify_survival,
    certify_told,
)
from wavespots.checker import accepts
from wavespots.every import broken_lot, settles_all
from wavespots.few import coset_signal, fewest_waves, is_coset_signal, least_by_line, signal_on
from wavespots.lost import lost_signal, survives
from wavespots.lots import beside
from wavespots.numbers import mirrored, nought, plus, root, times
from wavespots.pairs import even_pair_of, has_first_sign, has_second_sign, is_even_pair, partner_of, zero_steps
from wavespots.settling import rank_of, settles, signal_with, unseen, way_back
from wavespots.signals import parts_of, places_of, waves_of
from wavespots.unknown import clash, few_back, tells_few

PRIMES = (2, 3, 5, 7, 11)


def some_lots(size, many, least=1):
    every = reckon.lots(size, least)
    return every if len(every) <= many else random.Random(size).sample(every, many)


def neighbours(size, start, many):
    return tuple(sorted((start + at) % size for at in range(many)))


def minus(size, signal, other):
    return tuple(plus(size, one, tuple((-above, below) for above, below in two)) for one, two in zip(signal, other))


class TogetherTest(unittest.TestCase):
    def check_accepted(self, claim, paper):
        if accepts(claim, paper) is not True:
            self.fail(f"{claim!r} is not accepted with {paper!r}")

    def check_refused(self, claim, paper):
        if accepts(claim, paper) is not False:
            self.fail(f"{claim!r} is accepted with {paper!r}")


class LostTest(TogetherTest):
    """[15]"""

    def test_lost_signals(self):
        for size in reckon.SIZES:
            for steps in some_lots(size, 12, 0):
                for many in (0, 1, 2, 3, size - 1, size):
                    if many <= size:
                        self.check_lost(size, steps, many)

    def check_lost(self, size, steps, many):
        found = lost_signal(size, steps, many)
        claim, paper = certify_survival(size, steps, many)
        self.assertEqual(claim[0] == "survives", survives(size, steps, many))
        if found is None:
            self.assertEqual((claim, paper), (("survives", size, steps, many), ()))
            return
        self.check_accepted(("lost", size, steps, many), found)
        self.check_refused(("survives", size, steps, many), found)
        places = places_of(size, found)
        self.check_accepted(("unseen", size, beside(size, places), steps), found)
        self.check_accepted(("places and waves", size, places, waves_of(size, found)), found)
        self.check_refused(("lost", size, steps, len(places) - 1), found)
        number = len(waves_of(size, found))
        if number < size:
            self.check_accepted(("fewer waves", size, places, number + 1), found)

    def test_ways_back_of_what_is_left(self):
        for size in range(2, 8):
            for steps in some_lots(size, 12, 0):
                for many in range(size + 1):
                    left = [beside(size, lost) for lost in combinations(range(size), many)]
                    backs = [way_back(size, moments, steps) for moments in left]
                    self.assertIs(survives(size, steps, many), None not in backs)
                    for moments, back in zip(left[:6], backs):
                        if back is not None:
                            self.check_accepted(("settles", size, moments, steps), back)

    def test_waves_that_follow_one_another(self):
        for size in reckon.SIZES:
            for count in (1, 2, size - 1, size):
                for many in (size - count, size - count + 1):
                    steps = neighbours(size, size - 1, count)
                    claim, _ = certify_survival(size, steps, many)
                    self.assertEqual(claim[0], "lost" if many > size - count else "survives")


class CosetTest(TogetherTest):
    """[17], [18]"""

    def test_unseen_where_they_are_nought(self):
        for size in reckon.SIZES:
            for count in reckon.divisors(size):
                for start in range(count):
                    for step in range(size):
                        self.check_coset(size, count, coset_signal(size, count, start, step))

    def check_coset(self, size, count, signal):
        places, steps = places_of(size, signal), waves_of(size, signal)
        others = beside(size, places)
        self.check_accepted(("places and waves", size, places, steps), signal)
        self.check_accepted(("unseen", size, others, steps), signal)
        self.check_accepted(("lost", size, steps, len(places)), signal)
        self.check_refused(("lost", size, steps, len(places) - 1), signal)
        self.check_refused(("unseen", size, tuple(sorted(others + places[:1])), steps), signal)
        if count < size:
            self.check_accepted(("fewer waves", size, places, count + 1), signal)
        self.check_refused(("fewer waves", size, places, count), signal)
        # it is the one signal that is not seen there
        found = unseen(size, others, steps)
        self.assertIs(is_coset_signal(size, found), True)
        self.assertEqual((places_of(size, found), waves_of(size, found)), (places, steps))
        self.assertEqual(rank_of(size, others, steps), count - 1)

    def test_places_times_waves(self):
        for size in reckon.SIZES:
            chance = random.Random(size)
            every = reckon.lots(size)
            for _ in range(40):
                moments, steps = chance.choice(every), chance.choice(every)
                found = unseen(size, moments, steps)
                if found is not None:
                    self.check_signal(size, found)

    def check_signal(self, size, signal):
        places, steps = len(places_of(size, signal)), len(waves_of(size, signal))
        self.assertGreaterEqual(places * steps, size)
        self.assertIs(is_coset_signal(size, signal), places * steps == size)
        self.assertGreaterEqual(steps, least_by_line(size, places))
        if size in PRIMES:
            self.assertGreater(places + steps, size)

    def test_broken_lots(self):
        for size in (4, 6, 8, 9, 10):
            for moments in some_lots(size, 40):
                claim, paper = certify_every(size, moments)
                if claim[0] == "broken":
                    lot, signal = paper
                    self.check_signal(size, signal)
                    self.assertIs(settles(size, moments, lot), False)
                    self.check_accepted(("unseen", size, moments, lot), signal)
                    self.check_accepted(("broken", size, moments), (lot, signal))
                    self.check_accepted(("broken", size, moments), (lot, unseen(size, moments, lot)))


class FewTest(TogetherTest):
    """[18], [19]"""

    def test_as_few_waves_as_there_can_be(self):
        for size in reckon.SIZES:
            for moments in some_lots(size, 8):
                least = fewest_waves(size, moments)
                self.assertEqual(certify_few(size, moments, least)[0][0], "few waves")
                if least < size:
                    claim, paper = certify_few(size, moments, least + 1)
                    self.assertEqual(claim[0], "fewer waves")
                    self.assertEqual(len(waves_of(size, paper)), least)
                    self.assertIs(settles(size, beside(size, moments), waves_of(size, paper)), False)
                    self.check_accepted(("unseen", size, beside(size, moments), waves_of(size, paper)), paper)

    def test_signals_on(self):
        for size in reckon.SIZES:
            chance = random.Random(size)
            every = reckon.lots(size, 1)
            for _ in range(30):
                moments, steps = chance.choice(every), chance.choice(every)
                found = signal_on(size, moments, steps)
                claim, paper = certify_signal(size, moments, steps)
                if found is None:
                    self.assertEqual((claim, paper), (("no such signal", size, moments, steps), ()))
                    self.check_refused(("places and waves", size, moments, steps), unseen(size, (), steps))
                else:
                    self.check_accepted(("places and waves", size, moments, steps), found)
                    self.check_accepted(("unseen", size, beside(size, moments), steps), found)

    def test_turned_over(self):
        # a signal's parts are a signal with its waves as places and its places, mirrored, as waves
        for size in reckon.SIZES:
            chance = random.Random(size)
            every = reckon.lots(size, 1)
            for _ in range(15):
                found = unseen(size, chance.choice(every), chance.choice(every))
                if found is not None:
                    mirror = tuple(sorted(-place % size for place in places_of(size, found)))
                    claim = ("places and waves", size, waves_of(size, found), mirror)
                    self.check_accepted(claim, parts_of(size, found))


class PairsTest(TogetherTest):
    """[20], [21], [22]"""

    def test_even_pairs_settle(self):
        # the columns of the table are square to one another, so that it mirrored is a way back but for a factor
        for size in reckon.SIZES:
            for moments in some_lots(size, 40):
                steps = even_pair_of(size, moments)
                if steps is None:
                    continue
                self.assertEqual(certify_pair(size, moments, steps), (("even pair", size, moments, steps), ()))
                self.assertEqual(certify_pair(size, steps, moments)[0][0], "even pair")
                share = ((1, len(moments)),) + nought(size)[1:]
                back = tuple(
                    tuple(times(size, share, mirrored(size, root(size, j * k % size))) for j in moments) for k in steps)
                self.check_accepted(("settles", size, moments, steps), back)
                self.assertEqual(way_back(size, moments, steps), back)

    def test_uneven_pairs(self):
        for size in reckon.SIZES:
            chance = random.Random(size)
            every = reckon.lots(size, 1)
            for _ in range(40):
                moments, steps = chance.choice(every), chance.choice(every)
                (word, *_), paper = certify_pair(size, moments, steps)
                self.assertEqual(word == "even pair", is_even_pair(size, moments, steps))
                if word == "uneven pair":
                    one, other = paper
                    self.assertNotIn((one - other) % size, zero_steps(size, moments))
                    self.check_accepted(("uneven pair", size, moments, steps), (other, one))
                    self.check_accepted(("uneven pair", size, moments, tuple(sorted(paper))), paper)

    def test_partners_signs_and_even_pairs(self):
        for size in reckon.SIZES:
            for moments in some_lots(size, 60):
                (word, *_), paper = certify_partner(size, moments)
                has_one = has_first_sign(size, moments) and has_second_sign(size, moments)
                self.assertEqual(word, "partner" if has_one else "no partner")
                self.assertIs(even_pair_of(size, moments) is not None, has_one)
                found = partner_of(size, moments)
                if has_one:
                    self.check_accepted(("partner", size, moments), found)
                    self.check_accepted(("partner", size, paper), moments)
                    for by in range(size):
                        moved = tuple(sorted((each + by) % size for each in found))
                        self.check_accepted(("partner", size, moments), moved)
                else:
                    self.assertIsNone(found)


class ToldTest(TogetherTest):
    """[23], [16]"""

    def test_each_lot_of_twice_as_many(self):
        for size in range(2, 9):
            for moments in some_lots(size, 25):
                for many in range(1, size + 1):
                    lots = combinations(range(size), min(2 * many, size))
                    expected = all(way_back(size, moments, lot) is not None for lot in lots)
                    self.assertEqual(certify_told(size, moments, many)[0][0], "told few" if expected else "clashing")

    def test_as_many_moments_as_twice_the_waves(self):
        for size in reckon.SIZES:
            chance = random.Random(size)
            for many in range(1, size // 2 + 1):
                lots = reckon.lots_of(size, 2 * many)
                if len(lots) <= 300:
                    for moments in chance.sample(lots, min(len(lots), 4)):
                        self.assertIs(tells_few(size, moments, many), settles_all(size, moments))
                        self.assertIs(tells_few(size, moments, many), broken_lot(size, moments) is None)

    def test_clashes(self):
        for size in reckon.SIZES:
            for moments in some_lots(size, 10):
                for many in (1, 2, size):
                    if many <= size and len(reckon.lots_of(size, min(2 * many, size))) <= 300:
                        self.check_clash(size, moments, many)

    def check_clash(self, size, moments, many):
        found = clash(size, moments, many)
        if found is None:
            self.check_accepted(("told few", size, moments, many), ())
            return
        one, other = found
        self.check_accepted(("clashing", size, moments, many), (other, one))
        difference = minus(size, one, other)
        steps = tuple(sorted(set(waves_of(size, one) + waves_of(size, other))))
        self.check_accepted(("unseen", size, moments, steps), difference)
        self.check_accepted(("unseen", size, moments, waves_of(size, difference)), difference)

    def test_moments_one_behind_the_other(self):
        for size in reckon.SIZES:
            chance = random.Random(size)
            for many in range(1, size // 2 + 1):
                start = chance.randrange(size)
                moments = neighbours(size, start, 2 * many)
                self.assertIs(settles(size, moments, neighbours(size, chance.randrange(size), 2 * many)), True)
                steps = tuple(sorted(chance.sample(range(size), many)))
                signal = reckon.told_signal(reckon.some_signal(chance, size, steps, 3))
                values = tuple(signal[(start + at) % size] for at in range(2 * many))
                self.assertEqual(few_back(size, start, values), signal)
                self.assertEqual(signal_with(size, moments, steps, tuple(signal[at] for at in moments)), signal)
                back = way_back(size, moments, steps)
                self.check_accepted(certify_settling(size, moments, steps)[0], back)


if __name__ == "__main__":
    unittest.main()
