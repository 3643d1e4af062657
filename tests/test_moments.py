"""Point 10 and the interface of bellrest/moments.py."""

import unittest
from fractions import Fraction

from bellrest.errors import Backwards, InvalidMoment
from bellrest.moments import (added, compared, halfway, is_moment, moment, moment_text, read_moment, since,
                              whole_and_part)
from helpers import ODD_VALUES, as_moment, check_judge, fraction, moment_oracle, seeded

MOMENTS = ((0, 1), (1, 1), (1, 2), (7, 2), (3, 1), (2, 3), (99, 7), (999999999999, 999999999989), (10 ** 40, 3))


def pairs():
    return [(one, other) for one in MOMENTS for other in MOMENTS]


class TestMoments(unittest.TestCase):
    def test_judge(self):
        check_judge(self, is_moment, MOMENTS, moment_oracle)

    def test_judge_says_no(self):
        for value in ((2, 2), (6, 4), (0, 2), (-1, 2), (1, 0), (0, 0), (1, -1), (True, 1), (1, True), [1, 2], "1/2", 1,
                      (1,), (1, 2, 3), None, (1, None), ("1", "2"), ((1, 2), (1, 2))):
            self.assertIs(is_moment(value), False, value)

    def test_moment_is_in_lowest_terms(self):
        self.assertEqual(moment(6, 4), (3, 2))
        self.assertEqual(moment(0, 9), (0, 1))
        self.assertEqual(moment(5), (5, 1))
        self.assertEqual(moment(5, 1), (5, 1))
        self.assertEqual(moment(10 ** 50, 10 ** 49), (10, 1))
        for numerator in range(30):
            for denominator in range(1, 30):
                self.assertEqual(moment(numerator, denominator), as_moment(Fraction(numerator, denominator)))

    def test_wrong_moments(self):
        for wrong in ((-1, 1), (1, 0), (0, 0), (-1, 0), (3, -4), (-2, -2), (10 ** 5000, 0)):
            with self.assertRaises(InvalidMoment) as caught:
                moment(*wrong)
            self.assertEqual(caught.exception.value, wrong)
        with self.assertRaises(InvalidMoment) as caught:
            moment(-5)
        self.assertEqual(caught.exception.value, (-5, 1))

    def test_added(self):
        self.assertEqual(added(), (0, 1))
        self.assertEqual(added((7, 2)), (7, 2))
        self.assertEqual(added((1, 2), (1, 3), (1, 6)), (1, 1))
        for one, other in pairs():
            self.assertEqual(added(one, other), as_moment(fraction(one) + fraction(other)))
            self.assertEqual(added(one, other, one), as_moment(2 * fraction(one) + fraction(other)))

    def test_since(self):
        for one, other in pairs():
            gap = fraction(other) - fraction(one)
            if gap >= 0:
                self.assertEqual(since(one, other), as_moment(gap))
            else:
                with self.assertRaises(Backwards) as caught:
                    since(one, other)
                self.assertEqual((caught.exception.first, caught.exception.second), (one, other))
        self.assertEqual(since((1, 3), (1, 3)), (0, 1))

    def test_compared(self):
        for one, other in pairs():
            first, second = fraction(one), fraction(other)
            self.assertEqual(compared(one, other), (first > second) - (first < second))
            self.assertIs(type(compared(one, other)), int)

    def test_halfway(self):
        for one, other in pairs():
            self.assertEqual(halfway(one, other), as_moment((fraction(one) + fraction(other)) / 2))

    def test_whole_and_part(self):
        for one in MOMENTS:
            whole, part = whole_and_part(one)
            self.assertTrue(moment_oracle(part))
            self.assertEqual(whole + fraction(part), fraction(one))
            self.assertEqual(whole, fraction(one) // 1)
        self.assertEqual(whole_and_part((4, 1)), (4, (0, 1)))
        self.assertEqual(whole_and_part((0, 1)), (0, (0, 1)))


class TestTexts(unittest.TestCase):
    def test_texts(self):
        self.assertEqual(moment_text((7, 2)), "7/2")
        self.assertEqual(moment_text((3, 1)), "3")
        self.assertEqual(moment_text((0, 1)), "0")
        self.assertEqual(moment_text((10 ** 45, 7)), str(10 ** 45) + "/7")

    def test_there_and_back(self):
        chance = seeded(10)
        for _ in range(500):
            value = moment(chance.randint(0, 10 ** 12), chance.choice((1, 2, 3, 10 ** 12 - 1, chance.randint(1, 99))))
            self.assertEqual(read_moment(moment_text(value)), value)

    def test_exactly_forty_characters(self):
        for text in ("9" * 40, "9" * 37 + "/10", "1/" + "3" * 38):
            self.assertEqual(len(text), 40)
            numerator, _, denominator = text.partition("/")
            self.assertEqual(read_moment(text), (int(numerator), int(denominator or "1")))
            self.assertEqual(moment_text(read_moment(text)), text)

    def test_no_texts(self):
        wrong = ["", " ", "/", "1/", "/2", "01", "00", "1/02", "01/2", "3/1", "0/1", "1/0", "0/0", "0/2", "2/4", "6/4", "5/5",
                 "+1", "-1", "-0", "1/-2", "1/+2", " 1", "1 ", "1 /2", "1/ 2", "1/2 ", "1\n", "1/2\n", "\n1", "1/2/3",
                 "1//2", "1.5", "1e3", "1_000", "0x1", "a", "1a", "(1, 2)", "one", "\u0661", "\u00b2", "1/\u0662",
                 "\uff11", "9" * 41, "1/" + "3" * 39, "1" * 5000, "1/" + "3" * 5000, "0" * 5000, "x" * 5000]
        wrong += [str(value) for value in ODD_VALUES if value not in (0, 1, 2, 10 ** 30, "1")]
        for text in wrong:
            with self.assertRaises(InvalidMoment) as caught:
                read_moment(text)
            self.assertEqual(caught.exception.value, text)

    def test_all_short_strings(self):
        signs = "0123/ -"
        texts = [a + b + c + d for a in signs for b in signs for c in ["", *signs] for d in ["", *signs]]
        for text in texts:
            numerator, slash, denominator = text.partition("/")
            good = False
            if all(part.isdigit() and str(int(part)) == part for part in [numerator] + ([denominator] if slash else [])):
                value = (int(numerator), int(denominator) if slash else 1)
                good = moment_oracle(value) and (not slash or value[1] > 1)
            if good:
                self.assertEqual(read_moment(text), value)
            else:
                with self.assertRaises(InvalidMoment):
                    read_moment(text)


if __name__ == "__main__":
    unittest.main()
