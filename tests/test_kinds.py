"""Points 40 to 43: kinds, their rests, tests, restarts and answers."""

import inspect
import itertools
import unittest
from fractions import Fraction

from bellrest.errors import BeyondCeiling, InvalidKind, UnlikeKinds
from bellrest.kinds import answer, is_kind, kind_in, kind_of, next_kind, restart_kind, rests_of, sample
from bellrest.spans import in_span
from bellrest.tables import is_readings
from helpers import (
    ODD_VALUES, advanced, all_kinds, as_moment, check_judge, following_kinds, fraction, kind_oracle, moment_oracle, near_values,
    random_moment, seeded, span_oracle)

CEILINGS = ((0,), (1,), (3,), (0, 0), (1, 2), (2, 1), (1, 0, 2), (1, 1, 1))


def random_readings(chance, clocks, until=4):
    return tuple(random_moment(chance, until) for _ in range(clocks))


class TestKindOf(unittest.TestCase):
    def test_edges(self):
        self.assertEqual(kind_of(((1, 2), (5, 3), (4, 1)), (2, 2, 1)), ((0, 1, 2), ((), (1,), (2,))))
        self.assertEqual(kind_of(((0, 1),), (0,)), ((0,), ((1,),)))
        self.assertEqual(kind_of(((1, 10 ** 11),), (0,)), ((1,), ((),)))
        self.assertEqual(kind_of(((2, 1), (2, 1)), (2, 1)), ((2, 2), ((1,),)))
        self.assertEqual(kind_of(((21, 10), (11, 10)), (2, 1)), ((3, 2), ((),)))
        self.assertEqual(kind_of(((5, 3), (2, 3), (8, 9)), (4, 4, 4)), ((1, 0, 0), ((), (1, 2), (3,))))
        self.assertEqual(kind_of(((100, 1), (3, 1), (1, 1)), (5, 5, 5)), ((6, 3, 1), ((2, 3),)))

    def test_random_readings(self):
        chance = seeded(40)
        for _ in range(2000):
            ceilings = tuple(chance.randint(0, 4) for _ in range(chance.randint(1, 5)))
            readings = random_readings(chance, len(ceilings))
            self.assertEqual(kind_of(readings, ceilings), kind_oracle(readings, ceilings))

    def test_one_kind_lies_in_the_same_spans(self):
        chance = seeded(41)
        spans = [((a, x), (b, y)) for a in range(3) for b in range(3) for x in (0, 1) for y in (0, 1)]
        spans = [span for span in spans + [((a, x), None) for a in range(3) for x in (0, 1)] if span_oracle(span)]
        for _ in range(300):
            readings = random_readings(chance, 2, 3)
            kind = kind_of(readings, (2, 2))
            for clock, span in itertools.product((1, 2), spans):
                told = kind_in(kind, (2, 2), clock, span)
                self.assertIs(told, in_span(readings[clock - 1], span), (readings, clock, span))


class TestJudge(unittest.TestCase):
    def test_all_kinds_and_near_values(self):
        for ceilings in ((0,), (2,), (1, 0), (0, 1, 1)):
            kinds = all_kinds(ceilings)
            told = {repr(kind) for kind in kinds}
            check_judge(self, lambda value: is_kind(ceilings, value), kinds, lambda value: repr(value) in told)

    def test_forms(self):
        for value in (((3,), ((1,),)), ((3,), ((), (1,))), ((2,), ((), (1,))), ((1,), ((),)), ((4,), ((),)), ((-1,), ((1,),)),
                      ((0,), ()), ((0,), ((), ())), ((0,), ((1,), ())), ((0,), ((1, 1),)), ((0,), ((1,), (1,))), ((0,), ((2,),)),
                      ((0,), ((), (1,), ())), ((0,), ((0, 1),)), ((True,), ((1,),)), ((1,), ((True,),)), ([0], ((1,),)),
                      ((0,), [(1,)]), ((0,), ([1],)), [(0,), ((1,),)], ((0, 0), ((1, 2),)), ((), ((),))):
            self.assertIs(is_kind((2,), value), False, value)
        self.assertIs(is_kind((2, 2), ((0, 0), ((2, 1),))), False)
        self.assertIs(is_kind((2, 2), ((0, 0), ((), (2, 1)))), False)
        self.assertIs(is_kind((2, 2), ((0, 0), ((), (2,), (1,)))), True)
        self.assertIs(is_kind((2, 2), ((3, 3), ((),))), True)


class TestSamples(unittest.TestCase):
    def test_every_kind(self):
        for ceilings in CEILINGS:
            for kind in all_kinds(ceilings):
                readings = sample(kind, ceilings)
                self.assertTrue(is_readings(len(ceilings), readings))
                self.assertEqual(kind_oracle(readings, ceilings), kind)

    def test_wrong_kinds(self):
        values = [*ODD_VALUES, *near_values(((0, 2), ((), (1,))))]
        for function in (sample, next_kind):
            for value in values:
                if not is_kind((1, 1), value):
                    with self.assertRaises(InvalidKind) as caught:
                        function(value, (1, 1))
                    self.assertIs(caught.exception.value, value)
            self.assertRaises(InvalidKind, function, ((1,), ((),)), (1,))


class TestRests(unittest.TestCase):
    def test_the_kinds_that_follow(self):
        for ceilings in CEILINGS:
            for kind in all_kinds(ceilings):
                follow = following_kinds(sample(kind, ceilings), ceilings)
                self.assertEqual(list(rests_of(kind, ceilings)), follow)
                self.assertEqual(next_kind(kind, ceilings), (follow * 2)[1])

    def test_the_last_kind(self):
        self.assertEqual(next_kind(((3, 1), ((),)), (2, 0)), ((3, 1), ((),)))
        self.assertEqual(list(rests_of(((3, 1), ((),)), (2, 0))), [((3, 1), ((),))])

    def test_some_clocks_end(self):
        self.assertEqual(next_kind(((1, 1, 0), ((1, 2, 3),)), (1, 2, 0)), ((2, 1, 1), ((), (2,))))
        self.assertEqual(next_kind(((1, 0), ((1,), (2,))), (1, 1)), ((2, 0), ((), (2,))))
        self.assertEqual(next_kind(((0, 0, 0), ((), (1, 3), (2,))), (1, 1, 1)), ((0, 1, 0), ((2,), (1, 3))))

    def test_is_a_generator(self):
        self.assertTrue(inspect.isgeneratorfunction(rests_of))
        self.assertTrue(inspect.isgenerator(rests_of(((0,), ((1,),)), (1,))))


class TestTests(unittest.TestCase):
    def test_beyond_ceilings(self):
        kind = ((3, 0), ((2,),))
        self.assertIs(kind_in(kind, (2, 5), 1, ((2, 0), None)), True)
        self.assertIs(kind_in(kind, (2, 5), 1, ((0, 1), (2, 1))), False)
        self.assertIs(kind_in(kind, (2, 5), 2, ((0, 1), (5, 1))), True)
        for clock, span, limit in ((1, ((3, 1), None), 3), (1, ((0, 1), (4, 0)), 4), (1, ((3, 0), (7, 0)), 3),
                                   (2, ((6, 1), (6, 1)), 6), (2, ((5, 0), (99, 1)), 99)):
            with self.assertRaises(BeyondCeiling) as caught:
                kind_in(kind, (2, 5), clock, span)
            self.assertEqual((caught.exception.clock, caught.exception.limit), (clock, limit))

    def test_each_kind_and_span(self):
        spans = [((a, x), (b, y)) for a in range(3) for b in range(3) for x in (0, 1) for y in (0, 1)]
        spans = [span for span in spans + [((a, x), None) for a in range(3) for x in (0, 1)] if span_oracle(span)]
        ceilings = (2, 2)
        for kind in all_kinds(ceilings):
            readings = sample(kind, ceilings)
            for clock, span in itertools.product((1, 2), spans):
                self.assertIs(kind_in(kind, ceilings, clock, span), in_span(readings[clock - 1], span))


class TestRestarts(unittest.TestCase):
    def test_each_kind(self):
        for ceilings in CEILINGS:
            numbers = range(1, len(ceilings) + 1)
            for kind in all_kinds(ceilings):
                readings = sample(kind, ceilings)
                for count in range(len(ceilings) + 2):
                    for clocks in itertools.product(numbers, repeat=count):
                        changed = tuple((0, 1) if k in clocks else reading for k, reading in enumerate(readings, 1))
                        self.assertEqual(restart_kind(kind, clocks), kind_oracle(changed, ceilings))

    def test_order_and_repetition(self):
        kind = ((3, 0, 1), ((), (2,), (3,)))
        self.assertEqual(restart_kind(kind, (3, 1, 3)), ((0, 0, 0), ((1, 3), (2,))))
        self.assertEqual(restart_kind(kind, ()), kind)


class TestAnswers(unittest.TestCase):
    def check(self, readings, rest, other, ceilings):
        found = answer(readings, rest, other, ceilings)
        self.assertTrue(moment_oracle(found))
        self.assertEqual(kind_oracle(advanced(other, found), ceilings), kind_oracle(advanced(readings, rest), ceilings))
        return found

    def test_random_readings(self):
        chance = seeded(43)
        for _ in range(400):
            ceilings = tuple(chance.randint(0, 3) for _ in range(chance.randint(1, 3)))
            readings = random_readings(chance, len(ceilings), 5)
            others = [sample(kind_of(readings, ceilings), ceilings), readings]
            kind = kind_of(readings, ceilings)
            # Clocks that are beyond may read anything above their ceilings.
            others.append(tuple(as_moment(fraction(reading) + chance.randint(0, 3)) if whole > ceiling else reading
                                for reading, whole, ceiling in zip(others[0], kind[0], ceilings)))
            for other in others:
                for rest in ((0, 1), (1, 7), (7, 1), random_moment(chance, 5, 9)):
                    self.check(readings, rest, other, ceilings)

    def test_every_rest(self):
        ceilings = (2, 1)
        for kind in all_kinds(ceilings):
            readings = sample(kind, ceilings)
            other = tuple(as_moment((fraction(one) * 5 + int(fraction(one))) / 6) for one in readings)
            if kind_oracle(other, ceilings) == kind:
                for rest in range(20):
                    self.check(readings, as_moment(Fraction(rest, 6)), other, ceilings)
                    self.check(other, as_moment(Fraction(rest, 6)), readings, ceilings)

    def test_edges(self):
        self.assertEqual(answer(((1, 2),), (1, 2), ((1, 3),), (1,)), (2, 3))
        self.assertEqual(answer(((3, 1),), (0, 1), ((5, 2),), (1,)), (0, 1))
        self.check(((1, 2),), (99, 1), ((1, 3),), (1,))

    def test_unlike_kinds(self):
        with self.assertRaises(UnlikeKinds) as caught:
            answer(((1, 2), (0, 1)), (1, 1), ((1, 1), (0, 1)), (1, 1))
        self.assertEqual(caught.exception.first, ((0, 0), ((2,), (1,))))
        self.assertEqual(caught.exception.second, ((1, 0), ((1, 2),)))


if __name__ == "__main__":
    unittest.main()
