"""Points 11, 12 and 13 and the interface of bellrest/spans.py."""

import itertools
import unittest
from fractions import Fraction

from bellrest.errors import InvalidSpan
from bellrest.spans import (EVER, hour_of, hour_span, in_span, is_edge, is_span, read_span, span, span_added, span_cover,
                            span_meet, span_moment, span_text)
from helpers import ODD_VALUES, as_moment, check_judge, edge_oracle, fraction, in_span_oracle, span_oracle

LOWS = [(limit, reach) for limit in range(4) for reach in (0, 1)]
SPANS = [(low, high) for low in LOWS for high in [None, *LOWS] if span_oracle((low, high))]
# Quarters tell all spans with integer limits apart, and so they do for sums of two of them.
QUARTERS = [as_moment(Fraction(number, 4)) for number in range(37)]


def members(one):
    return [moment for moment in QUARTERS if in_span_oracle(moment, one)]


class TestJudges(unittest.TestCase):
    def test_edges(self):
        check_judge(self, is_edge, ((0, 0), (0, 1), (5, 1), (-7, 0), (10 ** 40, 1)), edge_oracle)
        for value in ((0, 2), (0, -1), (True, 1), (0, True), (0, False), [0, 1], (0,), (0, 1, 1), (None, 1), ("0", 1), 0):
            self.assertIs(is_edge(value), False, value)

    def test_spans(self):
        check_judge(self, is_span, SPANS, span_oracle)
        for value in (((-1, 1), None), ((2, 1), (1, 1)), ((2, 1), (2, 0)), ((2, 0), (2, 1)), ((2, 0), (2, 0)), (None, None),
                      (None, (2, 1)), ((0, 1),), ((0, 1), None, None), [(0, 1), None], ((0, 1), [2, 1]),
                      ((False, 1), None), ((0, 1), (5, 2)), ((-2, 1), (-1, 1)), "[0,1]", None):
            self.assertIs(is_span(value), False, value)

    def test_ever(self):
        self.assertEqual(EVER, ((0, 1), None))
        self.assertTrue(is_span(EVER))


class TestSpan(unittest.TestCase):
    def test_limits_and_reaches(self):
        self.assertEqual(span(2), ((2, 1), None))
        self.assertEqual(span(2, low_reach=0), ((2, 0), None))
        self.assertEqual(span(2, None, high_reach=0), ((2, 1), None))
        self.assertEqual(span(2, high_reach=7), ((2, 1), None))
        self.assertEqual(span(2, 5), ((2, 1), (5, 1)))
        self.assertEqual(span(2, high=5, low_reach=0, high_reach=0), ((2, 0), (5, 0)))
        self.assertEqual(span(0, 0), ((0, 1), (0, 1)))

    def test_every_wrong_one(self):
        for low, high, low_reach, high_reach in itertools.product(range(-1, 4), [None, *range(-1, 4)], (-1, 0, 1, 2), (0, 1, 2)):
            value = ((low, low_reach), None if high is None else (high, high_reach))
            if span_oracle(value):
                self.assertEqual(span(low, high, low_reach=low_reach, high_reach=high_reach), value)
            else:
                with self.assertRaises(InvalidSpan) as caught:
                    span(low, high, low_reach=low_reach, high_reach=high_reach)
                self.assertEqual(caught.exception.value, value)

    def test_in_span(self):
        for one in SPANS:
            for moment in QUARTERS:
                self.assertIs(in_span(moment, one), in_span_oracle(moment, one), (moment, one))
        self.assertIs(in_span((10 ** 30, 7), EVER), True)
        self.assertIs(in_span((10 ** 30 - 1, 10 ** 30), ((0, 1), (1, 0))), True)


class TestSums(unittest.TestCase):
    def test_meet(self):
        self.assertEqual(span_meet(), EVER)
        for one in SPANS:
            self.assertEqual(span_meet(one), one)
            for other in SPANS:
                found = span_meet(one, other)
                self.assertEqual(found, span_meet(other, one))
                common = [moment for moment in members(one) if moment in members(other)]
                if found is None:
                    self.assertEqual(common, [])
                else:
                    self.assertTrue(span_oracle(found))
                    self.assertEqual(members(found), common)
                    self.assertEqual(found[1] is None, one[1] is None and other[1] is None)

    def test_meet_of_three(self):
        for three in itertools.combinations(SPANS[::5], 3):
            found = span_meet(*three)
            for again in itertools.permutations(three):
                self.assertEqual(span_meet(*again), found)
            common = [moment for moment in QUARTERS if all(in_span_oracle(moment, one) for one in three)]
            self.assertEqual([] if found is None else members(found), common)

    def test_cover(self):
        self.assertIsNone(span_cover())
        for one in SPANS:
            self.assertEqual(span_cover(one), one)
            for other in SPANS:
                found = span_cover(one, other)
                self.assertEqual(found, span_cover(other, one))
                self.assertTrue(set(members(one)) | set(members(other)) <= set(members(found)))
                # It is the smallest one: each end is an end of one of the two.
                self.assertIn(found[0], (one[0], other[0]))
                self.assertIn(found[1], (one[1], other[1]))
                self.assertEqual(members(found)[0], min(members(one)[0], members(other)[0], key=fraction))
                self.assertEqual(members(found)[-1], max(members(one)[-1], members(other)[-1], key=fraction))

    def test_cover_of_three(self):
        for three in itertools.combinations(SPANS[::5], 3):
            found = span_cover(*three)
            for again in itertools.permutations(three):
                self.assertEqual(span_cover(*again), found)
            self.assertEqual(found, span_cover(span_cover(three[0], three[1]), three[2]))

    def test_added(self):
        for one in SPANS:
            for other in SPANS:
                found = span_added(one, other)
                self.assertEqual(found[0], (one[0][0] + other[0][0], one[0][1] & other[0][1]))
                if one[1] is None or other[1] is None:
                    self.assertIsNone(found[1])
                else:
                    self.assertEqual(found[1], (one[1][0] + other[1][0], one[1][1] & other[1][1]))
                self.assertTrue(span_oracle(found))

    def test_moment(self):
        self.assertEqual(span_moment(((2, 1), None)), (2, 1))
        self.assertEqual(span_moment(((2, 0), None)), (3, 1))
        self.assertEqual(span_moment(((2, 0), (3, 0))), (5, 2))
        self.assertEqual(span_moment(((2, 0), (4, 1))), (3, 1))
        self.assertEqual(span_moment(((2, 1), (4, 0))), (2, 1))
        self.assertEqual(span_moment(EVER), (0, 1))
        for one in SPANS:
            self.assertTrue(in_span_oracle(span_moment(one), one))


class TestTexts(unittest.TestCase):
    def test_texts(self):
        self.assertEqual(span_text(((2, 1), (5, 0))), "[2,5)")
        self.assertEqual(span_text(((0, 0), (7, 1))), "(0,7]")
        self.assertEqual(span_text(((0, 0), None)), "(0,)")
        self.assertEqual(span_text(((10, 1), None)), "[10,)")
        self.assertEqual(span_text(((3, 1), (3, 1))), "[3,3]")

    def test_there_and_back(self):
        for one in SPANS + [((999999998, 0), (999999999, 1))]:
            self.assertEqual(read_span(span_text(one)), one)

    def test_no_texts(self):
        wrong = ["", "[", "]", "[]", "[,]", "[,)", "[2]", "[2,5", "2,5)", "2,5", "[2, 5)", " [2,5)", "[2,5) ", "[2,5)\n",
                 "\n[2,5)", "[2 ,5)", "{2,5}", "{2,5)", "x2,5]", " 2,5]", "[2,5}", "(2,5x",
                 "[2,5 ", "]2,5[", ")2,5(", "[2,]", "(2,]", "[5,2]", "[2,2)", "(2,2]", "(2,2)", "[02,5]",
                 "[2,05]", "[00,5]", "[-1,5]", "[+1,5]", "[-0,5]", "[2,-5]", "[2;5]", "[2,5,7]", "[2,,5]", "[2.0,5]",
                 "[a,b]", "[1_0,20]", "[\u0661,\u0662]", "[\u00b2,5]", "[1234567890,)", "[0,1234567890]", "[2,5))", "[[2,5)",
                 "[" + "1" * 5000 + ",)", "[0," + "1" * 5000 + ")", "x" * 5000, "[2,5" + ")" * 5000, "[1e1,)", "None"]
        wrong += [str(value) for value in ODD_VALUES if value != (0,)]
        for text in wrong:
            with self.assertRaises(InvalidSpan) as caught:
                read_span(text)
            self.assertEqual(caught.exception.value, text)

    def test_nine_digits(self):
        self.assertEqual(read_span("[123456789,999999999)"), ((123456789, 1), (999999999, 0)))
        self.assertEqual(read_span("(0,999999999]"), ((0, 0), (999999999, 1)))

    def test_all_short_strings(self):
        good = {span_text(one): one for one in SPANS}
        for text in map("".join, itertools.product("[(", ["", "0", "3", "00"], [",", "", ",,"], ["", "0", "1", "3", " 3"], "])")):
            if text in good:
                self.assertEqual(read_span(text), good[text])
            else:
                self.assertRaises(InvalidSpan, read_span, text)


class TestRounding(unittest.TestCase):
    def test_hours(self):
        for moment in QUARTERS:
            value = fraction(moment)
            self.assertEqual(hour_of(moment), value // 1)
            self.assertEqual(hour_of(moment, "down"), value // 1)
            self.assertEqual(hour_of(moment, "up"), -(-value // 1))
            self.assertEqual(hour_of(moment, rounding="up"), -(-value // 1))
        self.assertEqual(hour_of((0, 1), "up"), 0)
        self.assertEqual(hour_of((1, 10 ** 30), "up"), 1)

    def test_spans_of_hours(self):
        self.assertEqual(hour_span(0), ((0, 1), (1, 0)))
        self.assertEqual(hour_span(0, "down"), ((0, 1), (1, 0)))
        self.assertEqual(hour_span(0, "up"), ((0, 1), (0, 1)))
        self.assertEqual(hour_span(1, "up"), ((0, 0), (1, 1)))
        self.assertEqual(hour_span(7, "up"), ((6, 0), (7, 1)))
        self.assertEqual(hour_span(7, rounding="down"), ((7, 1), (8, 0)))
        for rounding in ("down", "up"):
            for hour in range(6):
                one = hour_span(hour, rounding)
                self.assertTrue(span_oracle(one))
                for moment in QUARTERS:
                    self.assertEqual(in_span_oracle(moment, one), hour_of(moment, rounding) == hour)

    def test_wrong_roundings(self):
        for wrong in ("", "Up", "DOWN", "up ", "near", None, 0, ("up",)):
            with self.assertRaises(InvalidSpan) as caught:
                hour_of((1, 2), wrong)
            self.assertEqual(caught.exception.value, wrong)
            for hour in (3, -1):
                with self.assertRaises(InvalidSpan) as caught:
                    hour_span(hour, wrong)
                self.assertEqual(caught.exception.value, wrong)

    def test_wrong_hours(self):
        for rounding in ("down", "up"):
            for hour in (-1, -10 ** 30):
                with self.assertRaises(InvalidSpan) as caught:
                    hour_span(hour, rounding)
                self.assertEqual(caught.exception.value, hour)


if __name__ == "__main__":
    unittest.main()
