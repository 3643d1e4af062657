"""Point 32: the text of a gate, there and back."""

import itertools
import re
import unittest

from bellrest.errors import InvalidGate, InvalidText
from bellrest.gates import Gate
from helpers import DOOR_TEXT, door, random_gates, span_oracle
from test_gates import GOOD
from test_names import NAME_OF_200, name_oracle, simple_oracle

FULL_TEXT = """gate door.one
clocks x y.z
state shut
state ajar x<=2 y.z<=0
state wide.open y.z<3
step shut push ajar when x[1,) y.z(0,2] restart x
step ajar bell shut restart y.z x
step shut push shut
also creak push
"""

NAME = r"[a-z]{1,12}(?:\.[a-z]{1,12})*"
SIMPLE = r"[a-z]{1,12}"
LIMIT = r"(?:0|[1-9][0-9]{0,8})"
SPAN = rf"(?:[\[(]{LIMIT},{LIMIT}[\])]|[\[(]{LIMIT},\))"
FORMS = {
    "gate": rf"gate {NAME}",
    "clocks": rf"clocks(?: {NAME})+",
    "state": rf"state {NAME}(?: {NAME}<=?{LIMIT})*",
    "step": rf"step {NAME} {SIMPLE} {NAME}(?: when(?: {NAME}{SPAN})+)?(?: restart(?: {NAME})+)?",
    "also": rf"also(?: {SIMPLE})+",
}
NEXT_FORMS = {None: ("gate",), "gate": ("clocks",), "clocks": ("state",), "state": ("state", "step", "also"),
              "step": ("step", "also"), "also": ()}


def span_of(text):
    """The pair of edges that the text of a span shows, whether or not it is a span."""
    low, _, high = text[1:-1].partition(",")
    return (int(low), int(text[0] == "[")), (int(high), int(text[-1] == "]")) if high else None


def line_oracle(text):
    """The number of the first line that cannot stand there, or None."""
    lines = text.split("\n")
    last = lines.pop()
    form = None
    for number, line in enumerate(lines, 1):
        for form in NEXT_FORMS[form]:
            if re.fullmatch(FORMS[form], line):
                break
        else:
            return number
        if form == "step" and not all(span_oracle(span_of(span)) for span in re.findall(SPAN, line)):
            return number
        if any(not name_oracle(name) for name in re.findall(NAME, line)):
            return number
    return len(lines) + 1 if last or form in (None, "gate", "clocks") else None


def line_of(text):
    """The line that Gate.read tells, or None if all lines have the form."""
    try:
        Gate.read(text)
    except InvalidText as error:
        return error.line
    except InvalidGate:
        return None
    return None


def parts_of(gate):
    return gate.name, gate.clocks, gate.states, gate.steps, gate.also


class TestThereAndBack(unittest.TestCase):
    def test_example(self):
        self.assertEqual(door().text(), DOOR_TEXT)
        self.assertEqual(parts_of(Gate.read(DOOR_TEXT)), parts_of(door()))

    def test_each_form_of_line(self):
        self.assertEqual(Gate(*GOOD).text(), FULL_TEXT)
        self.assertEqual(parts_of(Gate.read(FULL_TEXT)), GOOD)

    def test_random_gates(self):
        for gate in random_gates(61, 200):
            self.assertEqual(parts_of(Gate.read(gate.text())), parts_of(gate))
            self.assertIsNone(line_oracle(gate.text()))

    def test_words_that_are_names_as_well(self):
        words = ("gate", "clocks", "state", "step", "when", "restart", "also")
        for one, other in itertools.product(words, repeat=2):
            test = ((one, ((1, 1), None)),)
            gate = Gate(one, tuple(sorted({one, other})), ((one, ((other, (5, 0)),)), (other + ".b", ())),
                        ((one, other, test, (other,), one), (one, one, (), (one,), other + ".b"), (one, other, test, (), one),
                         (other + ".b", other, (), (), one)), (other,))
            self.assertEqual(parts_of(Gate.read(gate.text())), parts_of(gate))
        text = "gate when\nclocks restart when\nstate restart\nstep restart when restart when when[1,) restart restart when\n"
        self.assertEqual(Gate.read(text).steps, (("restart", "when", (("when", ((1, 1), None)),), ("restart", "when"), "restart"),))
        text = "gate a\nclocks when restart\nstate when\nstep when when when restart when restart\n"
        self.assertEqual(Gate.read(text).steps, (("when", "when", (), ("when", "restart"), "when"),))

    def test_long_limits_and_names(self):
        gate = Gate(NAME_OF_200, (NAME_OF_200,), ((NAME_OF_200, ((NAME_OF_200, (999999999, 0)),)),),
                    ((NAME_OF_200, "bell", ((NAME_OF_200, ((123456789, 0), (999999999, 1))),), (), NAME_OF_200),))
        self.assertEqual(parts_of(Gate.read(gate.text())), parts_of(gate))

    def test_read_is_static(self):
        self.assertIsInstance(vars(Gate)["read"], staticmethod)
        self.assertEqual(parts_of(door().read(FULL_TEXT)), GOOD)


class TestInvalidTexts(unittest.TestCase):
    def check(self, text, line):
        self.assertEqual(line_oracle(text), line, text)
        self.assertEqual(line_of(text), line, text)

    def check_by_oracle(self, text):
        self.assertEqual(line_of(text), line_oracle(text), text)
        return line_oracle(text)

    def test_missing_lines(self):
        self.check("", 1)
        self.check("gate a\n", 2)
        self.check("gate a\nclocks x\n", 3)
        self.check("gate a\nclocks x\nstate s\n", None)
        self.check("gate a\nclocks x\nstep s push s\n", 3)
        self.check("gate a\nclocks x\nalso push\n", 3)

    def test_after_the_last_newline(self):
        self.check("gate a", 1)
        self.check("x", 1)
        self.check("\n", 1)
        self.check("gate a\nclocks x", 2)
        self.check("gate a\nclocks x\nstate s", 3)
        self.check("gate a\nclocks x\nstate s\nstate t", 4)
        self.check("gate a\nclocks x\nstate s\n ", 4)
        self.check("gate a\nclocks x\nstate s\n\n", 4)
        self.check(DOOR_TEXT + "also push", 7)
        self.check(DOOR_TEXT + "x", 7)

    def test_lines_left_out_doubled_and_moved(self):
        for text in (DOOR_TEXT, FULL_TEXT):
            lines = text.split("\n")[:-1]
            seen = set()
            for at, line in enumerate(lines):
                changed = [lines[:at] + lines[at + 1:], lines[:at] + [line] + lines[at:], lines[:at] + [""] + lines[at:],
                           lines[:at], lines[:at] + [line.upper()] + lines[at + 1:]]
                for to in range(len(lines)):
                    moved = lines[:at] + lines[at + 1:]
                    changed.append(moved[:to] + [line] + moved[to:])
                for other in changed:
                    seen.add(self.check_by_oracle("\n".join(other + [""])))
            self.assertGreaterEqual(len(seen), 6)

    def test_bent_words(self):
        odd = ["", " ", "x", "x ", "X", "when", "restart", "also", "step", "state", "x<", "x<=", "x<2", "x<=02", "x<=-1", "x<==1",
               "x=2", "x>2", "x<=1234567890", "x<123456789", "x<2<3", "<2", "x.<2", "x[1,)", "x(0,3]", "x[1,]", "x[2,1]",
               "x[2,2)", "[1,)", "x[1234567890,)", "x[1,)y", "x [1,)", "x[01,)", "x[1,2)[3,4)", "a.b", "a..b", "abcdefghijklm",
               "a.abcdefghijklm", "x\t", "x\r", "\u00e9", "x[\u0661,)", "x<\u0661", "x,y", "1", "[", "(", "when x[1,)", "restart x"]
        for text in (DOOR_TEXT, FULL_TEXT):
            lines = text.split("\n")[:-1]
            seen = set()
            for at, line in enumerate(lines):
                words = line.split(" ")
                for place in range(len(words) + 1):
                    for word in odd:
                        for more in (words[:place] + [word] + words[place:], words[:place] + [word] + words[place + 1:]):
                            other = lines[:at] + [" ".join(more)] + lines[at + 1:]
                            seen.add(self.check_by_oracle("\n".join(other + [""])))
                    other = lines[:at] + [" ".join(words[:place] + words[place + 1:])] + lines[at + 1:]
                    seen.add(self.check_by_oracle("\n".join(other + [""])))
            self.assertEqual(seen, {None, *range(1, len(lines) + 1)})

    def test_each_character_left_out_or_replaced(self):
        for at in range(len(FULL_TEXT)):
            self.check_by_oracle(FULL_TEXT[:at] + FULL_TEXT[at + 1:])
            for sign in " \n<[x=":
                self.check_by_oracle(FULL_TEXT[:at] + sign + FULL_TEXT[at + 1:])
                self.check_by_oracle(FULL_TEXT[:at] + sign + FULL_TEXT[at:])

    def test_limits(self):
        for word, good in (("x<=999999999", True), ("x<=1234567890", False), ("x<=09", False), ("x<00", False), ("x<0", True)):
            self.check(f"gate a\nclocks x\nstate s {word}\n", None if good else 3)
        for word, good in (("x[999999999,)", True), ("x[1234567890,)", False), ("x[0,1234567890)", False), ("x[09,)", False)):
            self.check(f"gate a\nclocks x\nstate s\nstep s push s when {word}\n", None if good else 4)

    def test_long_names(self):
        self.check(f"gate {NAME_OF_200}\nclocks x\nstate s\n", None)
        self.check(f"gate {NAME_OF_200}f\nclocks x\nstate s\n", 1)
        self.check(f"gate a\nclocks x\nstate s\nstep s abcdefghijklm s\n", 4)
        self.check(f"gate a\nclocks x\nstate s\nstep s a.b s\n", 4)
        self.check(f"gate a\nclocks x\nstate s\nalso a.b\n", 4)

    def test_huge_texts(self):
        self.check("gate a\n" * 3000, 2)
        self.check("x" * 100000, 1)
        self.check("gate a\nclocks x\nstate s x<=" + "9" * 100000 + "\n", 3)


class TestErrorsOfTheConstructor(unittest.TestCase):
    def fault_of(self, text):
        with self.assertRaises(InvalidGate) as caught:
            Gate.read(text)
        return caught.exception.part, caught.exception.index

    def test_after_the_form(self):
        head = "gate a\nclocks x y\nstate s\n"
        self.assertEqual(self.fault_of("gate a\nclocks x y x\nstate s\n"), ("clocks", 2))
        self.assertEqual(self.fault_of("gate a\nclocks a b c d e f g\nstate s\n"), ("clocks", 6))
        self.assertEqual(self.fault_of(head + "state s\n"), ("states", 1))
        self.assertEqual(self.fault_of(head + "state t x<0\n"), ("states", 1))
        self.assertEqual(self.fault_of(head + "state t z<=1\n"), ("states", 1))
        self.assertEqual(self.fault_of(head + "state t x<=1 x<=2\n"), ("states", 1))
        self.assertEqual(self.fault_of(head + "step s push t\n"), ("steps", 0))
        self.assertEqual(self.fault_of(head + "step s push s\nstep s push s when z[1,)\n"), ("steps", 1))
        self.assertEqual(self.fault_of(head + "step s push s restart x x\n"), ("steps", 0))
        self.assertEqual(self.fault_of(head + "also push bell push\n"), ("also", 2))
        letters = "abcdefghijklmnopqrstuvwxyz"
        states = "".join(f"state {one}{other}\n" for one in letters for other in letters)
        self.assertEqual(self.fault_of("gate a\nclocks x\n" + states), ("states", 64))
        self.assertEqual(self.fault_of(head + "step s push s\n" * 401), ("steps", 400))

    def test_the_form_comes_first(self):
        text = "gate a\nclocks x x\nstate s x<0\nstep t push t restart z\nalso push push\n"
        self.assertEqual(self.fault_of(text), ("clocks", 1))
        self.assertEqual(line_of(text + "also push\n"), 6)
        self.assertEqual(line_of(text + "x"), 6)
        self.assertEqual(line_of(text.replace("also push push", "also pusH")), 5)
        self.assertEqual(line_of("gate a\nclocks x x\n"), 3)


if __name__ == "__main__":
    unittest.main()
