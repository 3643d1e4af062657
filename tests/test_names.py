"""Point 30 and the interface of bellrest/names.py."""

import re
import unittest

from bellrest.names import is_name, is_simple
from helpers import check_judge


def simple_oracle(value):
    return type(value) is str and re.fullmatch("[a-z]{1,12}", value) is not None


def name_oracle(value):
    return type(value) is str and len(value) <= 200 and re.fullmatch(r"[a-z]{1,12}(\.[a-z]{1,12})*", value) is not None


NAME_OF_200 = ".".join(["abcdefghijkl"] * 15 + ["abcde"])


class TestNames(unittest.TestCase):
    def test_simple_names(self):
        check_judge(self, is_simple, ("a", "z", "push", "abcdefghijkl", "when", "restart"), simple_oracle)
        for value in ("", "abcdefghijklm", "a.b", ".", "A", "aB", "a1", "a_b", "a b", " a", "a ", "a\n", "\u00e9", "\u0430",
                      "\u00df", "\uff41", b"a", 0, None, True, ("a",), ["a"], "a" * 5000):
            self.assertIs(is_simple(value), False, value)

    def test_names(self):
        names = ("a", "a.b", "abcdefghijkl.abcdefghijkl", "x.y.z", "when.restart")
        check_judge(self, is_name, names, name_oracle)
        for value in ("", ".", "..", ".a", "a.", "a..b", "a.b.", "abcdefghijklm", "a.abcdefghijklm", "a.B", "a.1", "a b", "a. b",
                      "a\n", "a.b\n", "\n", "\u00e9.a", b"a.b", 5, None, ("a", "b"), ["a"]):
            self.assertIs(is_name(value), False, value)

    def test_lengths(self):
        for count in range(1, 16):
            self.assertIs(is_simple("q" * count), count <= 12)
            self.assertIs(is_name("q" * count), count <= 12)
        self.assertEqual(len(NAME_OF_200), 200)
        self.assertIs(is_name(NAME_OF_200), True)
        self.assertIs(is_name(NAME_OF_200 + "f"), False)
        self.assertIs(is_name("f." + NAME_OF_200[:-1]), False)
        self.assertIs(is_name("a." * 99 + "ab"), True)
        self.assertIs(is_name("a." * 99 + "abc"), False)
        self.assertIs(is_name("a." * 100 + "a"), False)

    def test_each_letter(self):
        for code in range(256):
            letter = chr(code)
            self.assertIs(is_simple(letter), letter in "abcdefghijklmnopqrstuvwxyz")
            self.assertIs(is_name(letter), letter in "abcdefghijklmnopqrstuvwxyz")


if __name__ == "__main__":
    unittest.main()
