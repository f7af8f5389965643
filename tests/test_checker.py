"""[24]: which papers are accepted for which claims, against the tests' own judge and papers."""

import random
import unittest
from fractions import Fraction
from math import comb

from tests import judge, papers, reckon
from wavespots.checker import accepts

WORDS = tuple(judge.FORMS)
NIL, ONE = (0, 1), (1, 1)


class AlwaysEqual:
    """A thing that calls itself equal to whatever it is compared with."""

    def __eq__(self, other):
        return True

    def __hash__(self):
        return 0


class NeverCompared:
    """A thing that will not be compared, measured, iterated or hashed."""

    def refuse(self, *_):
        raise RuntimeError("touched")

    __eq__ = __lt__ = __gt__ = __le__ = __ge__ = __len__ = __iter__ = __bool__ = __contains__ = refuse
    __hash__ = None


ODD_THINGS = (
    None, True, False, 0, 1, -1, 13, 10 ** 399, -10 ** 399, "", "settles", "text", b"settles", (), [], {}, {1}, {1: 2},
    frozenset(), range(3), object(), len, ValueError, AlwaysEqual(), NeverCompared(), ((),), ([],), (None,), (1, 2),
    (AlwaysEqual(),), (NeverCompared(),), "\ud800",
)


def nested(value, deep):
    for _ in range(deep):
        value = (value,)
    return value


def shape(word, size, lots, chance):
    """A claim with drawn lots and counts."""
    form, lets_none = judge.FORMS[word]
    claim = (word, size, chance.choice(lots))
    if form == judge.TWO_LOTS:
        return claim + (chance.choice(lots),)
    if form == judge.LOT_AND_COUNT:
        return claim + (chance.randint(0 if lets_none else 1, size),)
    return claim


def claims(word, size):
    """All claims with this word and size."""
    form, lets_none = judge.FORMS[word]
    lots = reckon.lots(size, 0 if lets_none else 1)
    counts = range(0 if lets_none else 1, size + 1)
    for lot in lots:
        if form == judge.ONE_LOT:
            yield (word, size, lot)
        for other in lots if form == judge.TWO_LOTS else counts if form == judge.LOT_AND_COUNT else ():
            yield (word, size, lot, other)


def some_claims(word, size, many, seed=0):
    """All claims of the smallest sizes, drawn ones of the greater."""
    chance = random.Random(100 * size + seed)
    if size <= 4:
        return [claim for claim in claims(word, size) if judge.is_claim(claim)]
    lots = reckon.lots(size, 0 if judge.FORMS[word][1] else 1)
    found = [shape(word, size, lots, chance) for _ in range(many)]
    return [claim for claim in found if judge.is_claim(claim)]


def true_claims(word, size, many, seed=0):
    """Claims that are so; few are drawn with a word that is seldom so."""
    chance = random.Random(100 * size + seed)
    lots = reckon.lots(size, 0 if judge.FORMS[word][1] else 1)
    found = []
    for _ in range(60 * many):
        claim = shape(word, size, lots, chance)
        if len(found) < many and judge.is_claim(claim) and judge.is_so(claim):
            found.append(claim)
    return found


def opposite(claim):
    return (judge.OPPOSITES[claim[0]],) + claim[1:]


class CheckerTest(unittest.TestCase):
    def check(self, claim, paper, expected):
        found = accepts(claim, paper)
        if found is not expected:
            self.fail(f"accepts({claim!r}, {paper!r}) is {found!r}")

    def check_judged(self, claim, paper):
        self.check(claim, paper, judge.accepts(claim, paper))


class TruthTest(CheckerTest):
    """A right paper is accepted for the claim that is so alone."""

    def check_claim(self, claim, chance):
        if judge.is_so(claim):
            paper = papers.for_claim(claim, chance)
            self.check(claim, paper, True)
            self.check(opposite(claim), paper, False)
            self.check(opposite(claim), (), False)
        self.check_judged(claim, ())

    def test_small_sizes(self):
        for size in range(2, 7):
            chance = random.Random(size)
            for word in WORDS:
                for claim in some_claims(word, size, 80):
                    self.check_claim(claim, chance)

    def test_greater_sizes(self):
        for size in range(7, 13):
            chance = random.Random(size)
            for word in WORDS:
                for claim in some_claims(word, size, 6) + self.cheap(word, size):
                    self.check_claim(claim, chance)

    def cheap(self, word, size):
        """Some that are so, with lots of few elements."""
        return [claim for claim in true_claims(word, size, 2) if len(claim[2]) < 6]

    def test_each_word_is_so_somewhere(self):
        for word in WORDS:
            found = [claim for size in (4, 6) for claim in true_claims(word, size, 4)]
            self.assertGreater(len(found), 4)
            chance = random.Random(4)
            for claim in found:
                self.check_claim(claim, chance)

    def test_by_name(self):
        claim = ("partner", 4, (0, 1))
        self.assertIs(accepts(claim=claim, paper=(0, 2)), True)
        self.assertIs(accepts(paper=(0, 1), claim=claim), False)


class BentTest(CheckerTest):
    """Claims and papers bent at each depth, with the judge's answer."""

    def bends(self, value):
        """The value with one thing in it, at whatever depth, in the place of another."""
        yield from (None, True, False, "text", b"text", [], {}, 0, (), (()), AlwaysEqual(), [value], (value,))
        if type(value) is tuple:
            yield from (list(value), value + (None,), value + value[-1:], value[:-1], value[1:], value[::-1], value * 2)
            if len(value) == 2 and all(type(each) is int for each in value):
                above, below = value
                yield from ((2 * above, 2 * below), (-above, -below), (above, -below), (above, 0), (above, below, 1))
                yield from ((above * 10 ** 300, below * 10 ** 300), (above + below, below))
            for at, each in enumerate(value):
                for bent in self.bends(each):
                    yield value[:at] + (bent,) + value[at + 1:]
        elif type(value) is int:
            yield from (value + 1, value - 1, -value, value + 12, 13, 10 ** 300, -10 ** 300, str(value))
            if value in (0, 1):
                yield bool(value)
        elif type(value) is str:
            yield from WORDS
            yield from (value.upper(), value + " ", " " + value, value.encode(), list(value), tuple(value), "")

    def check_bent(self, claim, chance, most):
        paper = papers.for_claim(claim, chance)
        self.check(claim, paper, True)
        bent = list(self.bends(paper))
        for other in bent if len(bent) <= most else chance.sample(bent, most):
            self.check_judged(claim, other)
        for other in self.bends(claim):
            if judge.is_claim(other) and judge.how_many(*other) > 80:
                continue
            self.check_judged(other, paper)

    def test_small_sizes(self):
        for size in (2, 3, 4, 5, 6):
            chance = random.Random(size)
            for word in WORDS:
                for claim in true_claims(word, size, 4, 1):
                    self.check_bent(claim, chance, 1000)

    def test_great_sizes(self):
        for size in (8, 9, 12):
            chance = random.Random(size)
            for word in WORDS:
                if word not in ("survives", "told few", "few waves", "fewer waves", "settles all"):
                    for claim in true_claims(word, size, 1, 1):
                        self.check_bent(claim, chance, 150)

    def test_papers_of_other_claims(self):
        for size in (2, 3, 4, 6):
            chance = random.Random(size)
            right = [claim for word in WORDS for claim in true_claims(word, size, 3, 2)]
            every = [(), (0,), ((), ()), ((0,), (0,))] + [papers.for_claim(claim, chance) for claim in right]
            for claim in right:
                for paper in every:
                    self.check_judged(claim, paper)
                    self.check_judged(opposite(claim), paper)

    def test_papers_of_other_sizes(self):
        for word in WORDS:
            for claim in true_claims(word, 4, 3, 3):
                paper = papers.for_claim(claim, random.Random(4))
                for size in (2, 3, 5, 6, 8, 12):
                    self.check_judged((word, size) + claim[2:], paper)
                    other = true_claims(word, size, 1, 3)
                    for each in other:
                        self.check_judged(each, paper)

    def test_right_papers_in_the_place_of_claims(self):
        for word in WORDS:
            for claim in true_claims(word, 4, 2, 4):
                paper = papers.for_claim(claim, random.Random(4))
                self.check(paper, claim, False)
                self.check(claim, claim, False)
                self.check(paper, paper, False)
                self.check((claim,), paper, False)
                self.check(claim, (paper,), False)
                self.check(list(claim), paper, False)
                self.check(claim, list(paper), False)


class SignalPapersTest(CheckerTest):
    """Signals that are nearly right."""

    def spike(self, size, at):
        return tuple(reckon.scaled(reckon.power(size, 0), int(at == each)) for each in range(size))

    def some_wave(self, size, step):
        return reckon.values_of(size, {step: reckon.power(size, 1)})

    def near(self, size, paper):
        """A signal with one place or one wave more or fewer, moved, turned, nought, of another size."""
        signal = reckon.read_signal(paper)
        yield (reckon.nought(size),) * size
        for at in range(size):
            yield papers.added(signal, self.spike(size, at))
            yield papers.added(signal, self.some_wave(size, at))
            yield signal[at:] + signal[:at]
            yield tuple(reckon.times(size, value, reckon.power(size, at * here)) for here, value in enumerate(signal))
            yield signal[:at] + (reckon.nought(size),) + signal[at + 1:]
        yield signal[:-1]
        yield signal + signal[-1:]
        yield tuple(value + (Fraction(0),) for value in signal)
        yield tuple(value[:-1] for value in signal)

    def test_one_signal(self):
        for word in ("unseen", "lost", "fewer waves", "places and waves"):
            for size in (2, 3, 4, 5, 6, 8):
                chance = random.Random(size)
                for claim in true_claims(word, size, 3, 5):
                    paper = papers.for_claim(claim, chance)
                    for signal in self.near(size, paper):
                        self.check_judged(claim, reckon.told_signal(signal))

    def test_broken(self):
        for size in (4, 6, 8, 9):
            chance = random.Random(size)
            for claim in true_claims("broken", size, 3, 5):
                lot, paper = papers.for_claim(claim, chance)
                for signal in self.near(size, paper):
                    self.check_judged(claim, (lot, reckon.told_signal(signal)))
                for other in reckon.lots(size)[::size // 3]:
                    self.check_judged(claim, (other, paper))
                self.check(claim, (paper, lot), False)
                self.check(claim, (lot[::-1], paper), False)
                self.check(claim, (lot + lot[-1:], paper), False)

    def test_broken_lots_of_as_many_waves(self):
        # the waves 0 and 4 of eight are alike at even moments, whatever more stands in the lot
        one = reckon.power(8, 0)
        signal = reckon.told_signal(reckon.values_of(8, {0: one, 4: reckon.scaled(one, -1)}))
        for moments in ((0, 2), (0, 2, 4), (0, 2, 4, 6), (6,), (2, 4, 6)):
            claim = ("broken", 8, moments)
            for lot in ((0, 4), (0, 1, 4), (0, 4, 7), (0, 3, 4, 5), (0, 1, 2, 3, 4), (0, 1, 2), (0,), ()):
                expected = len(lot) == len(moments) and 0 in lot and 4 in lot
                self.check(claim, (lot, signal), expected)

    def test_clashing(self):
        for size in (2, 3, 4, 5, 6, 8):
            chance = random.Random(size)
            for claim in true_claims("clashing", size, 3, 5):
                one, other = papers.for_claim(claim, chance)
                self.check(claim, (other, one), True)
                self.check(claim, (one, one), False)
                self.check(claim, (other, other), False)
                self.check(claim, (one, other, other), False)
                for signal in self.near(size, one):
                    self.check_judged(claim, (reckon.told_signal(signal), other))
                    self.check_judged(claim, (other, reckon.told_signal(signal)))

    def test_a_pair_with_the_nought_signal(self):
        # wave 0 less wave 2 is not seen by 0 and 2, nor told from the nought signal with two waves
        nil, one, less = (NIL, NIL), (ONE, NIL), ((-1, 1), NIL)
        none, signal = (nil,) * 4, (nil, one, nil, one)
        self.check(("clashing", 4, (0, 2), 2), (none, signal), True)
        self.check(("clashing", 4, (0, 2), 2), (signal, none), True)
        self.check(("clashing", 4, (0, 2), 1), (signal, none), False)
        self.check(("clashing", 4, (0, 2), 2), (none, none), False)
        self.check(("clashing", 4, (0, 1), 2), (none, signal), False)
        self.check(("clashing", 4, (0, 2), 1), ((one,) * 4, (one, less, one, less)), True)
        self.check(("unseen", 4, (0, 2), (0, 2)), signal, True)
        self.check(("unseen", 4, (0, 2), (0, 1)), signal, False)
        self.check(("unseen", 4, (0, 2), (0, 2)), none, False)
        self.check(("unseen", 4, (), (0, 2)), none, False)

    def test_great_fractions(self):
        for word in ("unseen", "lost", "fewer waves", "places and waves", "broken", "clashing"):
            for size in (2, 4, 6, 12):
                chance = random.Random(size)
                for claim in true_claims(word, size, 1, 6):
                    self.check_great(claim, papers.for_claim(claim, chance), chance)

    def check_great(self, claim, paper, chance):
        word, size = claim[:2]
        number = reckon.some_number(chance, size, 10 ** 200)
        little = (Fraction(1, 10 ** 390),) + reckon.nought(size)[1:]

        def great(told):
            return tuple(reckon.times(size, value, number) for value in reckon.read_signal(told))

        def bent(signal):
            # a little more at one place has all waves
            at = reckon.places(signal)[0]
            return signal[:at] + (reckon.add(signal[at], little),) + signal[at + 1:]

        if word == "broken":
            self.check(claim, (paper[0], reckon.told_signal(great(paper[1]))), True)
            self.check_judged(claim, (paper[0], reckon.told_signal(bent(great(paper[1])))))
        elif word == "clashing":
            pair = [great(signal) for signal in paper]
            self.check(claim, tuple(reckon.told_signal(signal) for signal in pair), True)
            altered = [bent(signal) if any(map(any, signal)) else signal for signal in pair]
            self.check_judged(claim, (reckon.told_signal(altered[0]), reckon.told_signal(pair[1])))
        else:
            self.check(claim, reckon.told_signal(great(paper)), True)
            self.check_judged(claim, reckon.told_signal(bent(great(paper))))


class WayBackPapersTest(CheckerTest):
    def test_one_number_altered(self):
        for size in (2, 3, 4, 5, 6, 8, 12):
            chance = random.Random(size)
            for claim in true_claims("settles", size, 4, 7):
                rows = [reckon.read_signal(row) for row in papers.for_claim(claim, chance)]
                for limit in (2, 10 ** 200):
                    for at, row in enumerate(rows):
                        for here in range(len(row)):
                            more = reckon.add(row[here], reckon.some_number(chance, size, limit))
                            bent = rows[:at] + [row[:here] + (more,) + row[here + 1:]] + rows[at + 1:]
                            self.check(claim, tuple(map(reckon.told_signal, bent)), False)

    def test_great_fractions(self):
        for size in (4, 6, 12):
            chance = random.Random(size)
            moments, steps = (0, 1, 3), (0, 1)
            rows = reckon.way_back(size, moments, steps)
            parts = reckon.parts_of(size, reckon.unseen(size, steps, moments))
            free = [parts[moment] for moment in moments]
            rows = [papers.added(row, papers.multiple(chance, size, free, 10 ** 200)) for row in rows]
            told = tuple(map(reckon.told_signal, rows))
            self.check(("settles", size, moments, steps), told, True)
            little = tuple(part + Fraction(1, 10 ** 390) for part in rows[1][2])
            bent = (told[0], told[1][:2] + (reckon.told(little),))
            self.check(("settles", size, moments, steps), bent, False)

    def test_rows_in_another_order(self):
        for size in (4, 5, 6, 12):
            for claim in true_claims("settles", size, 4, 8):
                paper = papers.for_claim(claim, random.Random(size))
                self.check(claim, paper[::-1], len(paper) < 2)
                self.check(claim, paper[:-1], paper == ())
                self.check(claim, paper + paper[:1], paper == ())
                self.check_judged(claim, tuple(row[::-1] for row in paper))

    def test_nothing(self):
        for size in reckon.SIZES:
            for moments in ((), (0,), tuple(range(size))):
                self.check(("settles", size, moments, ()), (), True)
                self.check(("settles", size, moments, ()), ((),), False)
                self.check(("unseen", size, moments, ()), (), False)
            self.check(("settles", size, (), (0,)), (), False)
            self.check(("settles", size, (), (0,)), ((),), False)


class LotPapersTest(CheckerTest):
    def test_all_partners(self):
        for size in reckon.SIZES:
            chance = random.Random(size)
            every = reckon.lots(size)
            for moments in reckon.lots(size, 1) if size < 5 else chance.sample(every[1:], 6):
                for lot in every if size < 9 else chance.sample(every, 100):
                    self.check(("partner", size, moments), lot, reckon.is_partner(size, moments, lot))

    def test_cosets_and_neighbours(self):
        for size in reckon.SIZES:
            for count in reckon.divisors(size):
                row, coset = tuple(range(count)), tuple(range(0, size, count))
                for by in range(size):
                    moved = tuple(sorted((each + by) % size for each in coset))
                    self.check(("partner", size, row), moved, True)
                    self.check(("partner", size, coset), tuple(sorted((each + by) % size for each in row)), True)
                    self.check(("partner", size, row), moved[::-1], len(coset) == 1)
                    self.check(("partner", size, row), list(moved), False)
                    self.check(("no partner", size, row), moved, False)

    def test_no_lots(self):
        claim = ("partner", 6, (0, 1))
        self.check(claim, (0, 2, 4), True)
        for paper in (
            (), (0, 2), (0, 2, 4, 6), (2, 4, 6), (0, 4, 2), (0, 2, 2), (0, 0, 2, 4), (-2, 0, 2), (0, 2, 10),
            (False, 2, 4), (0, 2, "4"), (0, 2, (4,)), (0, 2, None), ((0, 2, 4),), [0, 2, 4], {0, 2, 4}, "024", None,
            True, 0,
        ):
            self.check(claim, paper, False)
        self.check(claim, (1, 3, 5), True)
        self.check(("partner", 6, (0, 1, 2, 3, 4, 5)), (5,), True)
        self.check(("partner", 6, (3,)), (0, 1, 2, 3, 4, 5), True)
        self.check(("partner", 6, (3,)), (True, 1, 2, 3, 4, 5), False)
        self.check(("partner", 6, (0, 1, 2, 3, 4, 5)), (True,), False)

    def test_all_pairs_of_waves(self):
        for size in reckon.SIZES:
            chance = random.Random(size)
            every = reckon.lots(size, 1)
            for _ in range(12):
                moments, steps = chance.choice(every), chance.choice(every)
                zeros = reckon.zero_steps(size, moments)
                for one in range(-1, size + 1):
                    for other in range(-1, size + 1):
                        is_uneven = one != other and (one - other) % size not in zeros
                        expected = one in steps and other in steps and is_uneven
                        self.check(("uneven pair", size, moments, steps), (one, other), expected)

    def test_no_pairs_of_waves(self):
        claim = ("uneven pair", 4, (0, 1), (0, 1, 2))
        for paper in ((0, 1), (1, 0), (1, 2), (2, 1)):
            self.check(claim, paper, True)
        for paper in (
            (0, 2), (2, 0), (0, 0), (1, 1), (0, 3), (3, 0), (0,), (0, 1, 2), (), [0, 1], (False, 1), (0, True),
            (True, 2), (0, None), ("0", 1), (0, (1,)), ((0, 1),), ((0, 1), (1, 2)), (0, 5), (4, 1), (-1, 0), (0, -3),
            None, "01", 1,
            {0, 1}, {0: 1, 1: 0}, (AlwaysEqual(), 1), (0, AlwaysEqual()), (NeverCompared(), 1), (10 ** 399, 0),
        ):
            self.check(claim, paper, False)


class WithoutPapersTest(CheckerTest):
    """Of claims without papers () alone is accepted."""

    def test_all_that_are_so(self):
        for word in judge.WITHOUT_PAPERS:
            for size in (2, 4, 6, 9):
                for claim in true_claims(word, size, 3, 9):
                    self.check(claim, (), True)
                    for paper in ODD_THINGS + (reckon.told_signal((reckon.power(size, 0),) * size), (0,), ((), ())):
                        if type(paper) is not tuple or len(paper) > 0:
                            self.check(claim, paper, False)

    def test_counts(self):
        # a signal with places within moments one behind the other has at least so many waves
        for size in reckon.SIZES:
            for many in (1, 2, size - 1, size):
                moments = tuple(range(size + 1 - many))
                self.check(("few waves", size, moments, many), (), True)
                self.check(("fewer waves", size, moments, many), (), False)
                if many < size:
                    self.check(("few waves", size, moments, many + 1), (), False)
                self.check(("few waves", size, moments, 0), (), False)
                self.check(("few waves", size, moments, -1), (), False)
                self.check(("few waves", size, moments, size + 1), (), False)
                self.check(("few waves", size, moments, True), (), False)
                self.check(("told few", size, moments, 0), (), False)
                self.check(("told few", size, tuple(range(size)), size + 1), (), False)
                self.check(("told few", size, tuple(range(size)), True), (), False)
                self.check(("told few", size, tuple(range(size)), size), (), True)
                self.check(("survives", size, (0,), size), (), False)
                self.check(("survives", size, (), size), (), True)
                self.check(("survives", size, (0,), 0), (), True)
                self.check(("survives", size, (0,), False), (), False)
                self.check(("survives", size, (), True), (), False)
                self.check(("survives", size, (), -1), (), False)
                self.check(("survives", size, (), size + 1), (), False)

    def test_no_lots(self):
        let = ("settles", "unseen", "survives", "lost", "settles all", "broken")
        for word in WORDS:
            form, lets_none = judge.FORMS[word]
            self.assertEqual(lets_none, word in let)
            if form == judge.ONE_LOT:
                self.check((word, 4, ()), (), word == "settles all")
                self.check((word, 4, ()), (0, 1, 2, 3), False)
            elif form == judge.LOT_AND_COUNT:
                self.check((word, 4, (), 4), (), word == "survives")
                self.check((word, 4, (), 1), (), word == "survives")
            else:
                self.check((word, 4, (), ()), (), word == "settles")
                self.check((word, 4, (0,), ()), (), word == "settles")
                self.check((word, 4, (), (0,)), (), False)
        for word in ("few waves", "no such signal", "even pair", "no partner", "told few"):
            more = (1,) if judge.FORMS[word][0] == judge.LOT_AND_COUNT else ((0,),)
            more = () if judge.FORMS[word][0] == judge.ONE_LOT else more
            self.check((word, 4, ()) + more, (), False)
        self.check(("no such signal", 4, (0,), ()), (), False)
        self.check(("even pair", 4, (0, 1), ()), (), False)


class WhateverTest(CheckerTest):
    """True or False alone, whatever both are."""

    def check_false(self, claim, paper):
        self.assertIs(accepts(claim, paper), False)

    def test_odd_claims(self):
        for claim in ODD_THINGS:
            for paper in ODD_THINGS:
                self.check_false(claim, paper)
                self.check_false((claim,), paper)
                self.check_false((claim, claim), paper)
                self.check_false((claim, claim, claim), paper)
                self.check_false((claim, 4, (0,), (0,)), paper)

    def test_odd_arguments(self):
        for word in WORDS:
            form, _ = judge.FORMS[word]
            for odd in ODD_THINGS:
                if not judge.is_lot(4, odd):
                    for others in ((), ((0,),), (1,), (odd,)):
                        self.check_false((word, 4, odd) + others, ())
                if form != judge.ONE_LOT and not judge.is_claim((word, 4, (0,), odd)):
                    self.check_false((word, 4, (0,), odd), ())
                others = {judge.ONE_LOT: (), judge.LOT_AND_COUNT: (1,), judge.TWO_LOTS: ((0,),)}[form]
                self.check_false((word, odd, (0,)) + others, ())
                self.check_false((word, 4, (0,)) + others + (odd,), ())
                self.check_false((word, 4, (odd,)) + others, "paper")

    def test_odd_papers(self):
        for word in WORDS:
            for claim in true_claims(word, 4, 2, 10):
                for odd in ODD_THINGS:
                    if type(odd) is not tuple:
                        self.check_false(claim, odd)
                    for paper in ((odd,), (odd, odd), (odd,) * 4, ((odd, odd),) * 4, (((odd, 1), (0, 1)),) * 4,
                                  (((1, odd), (0, 1)),) * 4, ((0, 1), (odd,) * 4), (odd, (((1, 1), (0, 1)),) * 4)):
                        self.assertIs(accepts(claim, paper), judge.accepts(claim, paper))

    def test_nested(self):
        for deep in range(15):
            for odd in (1, "settles", None, [], AlwaysEqual()):
                value = nested(odd, deep)
                self.check_false(value, value)
                for word in WORDS:
                    self.check_false((word, 4, value), value)
                    self.check_false((word, 4, (0, 1), value), value)
                    self.check_false((word, value, (0, 1), (0, 1)), value)
                    for claim in true_claims(word, 4, 1, 11):
                        self.assertIs(accepts(claim, value), judge.accepts(claim, value))

    def test_great_numbers(self):
        great = 10 ** 399 + 7
        for word in WORDS:
            for number in (great, -great):
                self.check_false((word, number, (0,), (0,)), ())
                self.check_false((word, 4, (0,), number), ())
                self.check_false((word, 4, (number,), (0,)), ())
                self.check_false((word, 4, (0, number)), ())
                for claim in true_claims(word, 4, 1, 12):
                    for paper in ((number,), (number, 0), (((number, 1), (0, 1)),) * 4, (((1, great), NIL),) * 4):
                        self.assertIs(accepts(claim, paper), judge.accepts(claim, paper))

    def test_wrong_words(self):
        for word in ("", "settle", "Settles", "settles ", "settles_all", "settlesall", "pair", "told", "none", "\x00"):
            for others in (((0,), (0,)), ((0,), 1), ((0,),), ()):
                self.check_false((word, 4) + others, ())
        for word in WORDS:
            self.check_false(word, ())
            self.check_false((word,), ())
            self.check_false((word, 4), ())
            self.check_false((word, 4, (0,), (0,), (0,)), ())


class LimitsTest(CheckerTest):
    """More than 300 lots: no claims for some words, however many for the others."""

    def test_survives(self):
        for size in (11, 12):
            for many in range(size + 1):
                self.check(("survives", size, (), many), (), comb(size, many) <= 300)
                self.check(("survives", size, (0,), many), (), comb(size, many) <= 300 and many < size)

    def test_lost(self):
        for size in (11, 12):
            for many in range(4, 9):
                if comb(size, many) > 300:
                    steps = tuple(range(size + 1 - many))
                    claim = ("lost", size, steps, many)
                    paper = reckon.told_signal(reckon.unseen(size, tuple(range(many, size)), steps))
                    self.check(claim, paper, True)
                    self.check(claim, (), False)
                    self.check(("survives", size, steps, many), paper, False)
                    # one wave fewer survives, so that this needs one place more
                    few = papers.sparse(size, [tuple(range(many + 1))], steps[:-1])
                    self.check(("lost", size, steps[:-1], many), reckon.told_signal(few), False)
                    self.check(("lost", size, steps[:-1], many + 1), reckon.told_signal(few), True)
                    self.check(("survives", size, steps[:-1], many), (), False)

    def test_settles_all(self):
        for many in range(13):
            expected = comb(12, many) <= 300
            self.check(("settles all", 12, tuple(range(many))), (), expected)
        for many in range(12):
            self.check(("settles all", 11, tuple(range(many))), (), True)
            self.check(("broken", 11, tuple(range(many))), (), False)

    def test_broken(self):
        for moments in ((0, 2, 4, 6), (0, 3, 6, 9), (0, 1, 2, 4, 6, 8), (0, 2, 4, 6, 8, 10), (0, 1, 3, 4, 6, 7, 9, 10)):
            lot, paper = papers.broken(12, moments, random.Random(12))
            self.check(("broken", 12, moments), (lot, paper), True)
            self.check(("broken", 12, moments), (), False)
            self.check(("settles all", 12, moments), (), False)
            self.check(("settles all", 12, moments), (lot, paper), False)
            self.check(("unseen", 12, moments, lot), paper, True)

    def test_told_few(self):
        for size in (11, 12):
            whole = tuple(range(size))
            for many in range(1, size + 1):
                is_let = comb(size, min(2 * many, size)) <= 300
                self.check(("told few", size, whole, many), (), is_let)
                self.check(("clashing", size, whole, many), (), False)
                self.check(("told few", size, (0,), many), (), False)

    def test_clashing(self):
        for size in (11, 12):
            nil, one = reckon.nought(size), reckon.power(size, 0)
            for many in range(1, size + 1):
                # wave 0 and wave 1 are alike at 0
                paper = tuple(reckon.told_signal(reckon.values_of(size, {step: one})) for step in (0, 1))
                self.check(("clashing", size, (0,), many), paper, True)
                self.check(("clashing", size, (0, 1), many), paper, False)
                self.check(("told few", size, (0,), many), paper, False)
                if 2 * many <= size:
                    # fewer moments than twice as many
                    chance = random.Random(many)
                    claim = ("clashing", size, tuple(range(2 * many - 1)), many)
                    self.check(claim, papers.clashing(*claim[1:], chance), True)
                    self.check(("clashing", size, tuple(range(2 * many)), many), (((nil,) * size),) * 2, False)

    def test_just_below(self):
        self.check(("survives", 10, (0,), 5), (), True)
        self.check(("survives", 12, (0, 1), 3), (), True)
        self.check(("survives", 12, (0, 1), 9), (), True)
        self.check(("settles all", 10, (0, 1, 2, 3, 4)), (), True)
        self.check(("settles all", 12, (3, 4, 5)), (), True)
        self.check(("told few", 12, (0, 1), 1), (), True)
        self.check(("told few", 10, (0, 1, 2, 3), 2), (), True)
        self.check(("told few", 12, tuple(range(11)), 5), (), True)


if __name__ == "__main__":
    unittest.main()
