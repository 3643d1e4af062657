"""Every name, parameter and default value of the interface, in the file that lists it."""

import importlib
import inspect
import unittest

import bellrest

FUNCTIONS = {
    "moments": """
is_moment(value)
moment(numerator, denominator=1)
added(*moments)
since(first, second)
compared(first, second)
halfway(first, second)
whole_and_part(moment)
moment_text(moment)
read_moment(text)
""",
    "spans": """
is_edge(value)
is_span(value)
span(low, high=None, *, low_reach=1, high_reach=1)
in_span(moment, span)
span_meet(*spans)
span_cover(*spans)
span_added(first, second)
span_moment(span)
span_text(span)
read_span(text)
hour_of(moment, rounding='down')
hour_span(hour, rounding='down')
""",
    "tables": """
is_cap(value)
is_table(value)
is_readings(clocks, value)
add_caps(first, second)
least_cap(*caps)
cap_allows(cap, first, second)
keeps(table, readings)
anything(clocks)
all_zero(clocks)
table_with(clocks, *conditions)
""",
    "shutting": """
is_shut(value)
shut(table)
ring(table)
is_ring(table, value)
way(table, i, j)
is_way(table, i, j, cap, value)
""",
    "points": """
point(table)
near(table, i, j, within)
""",
}


class TestFunctions(unittest.TestCase):
    def test_signatures(self):
        for name, text in FUNCTIONS.items():
            module = importlib.import_module("bellrest." + name)
            for line in text.split("\n"):
                if line:
                    function = vars(module)[line.partition("(")[0]]
                    self.assertTrue(inspect.isfunction(function))
                    self.assertEqual(function.__name__ + str(inspect.signature(function)), line)
                    self.assertEqual(function.__module__, module.__name__)

    def test_the_package_binds_nothing(self):
        names = [name for name, value in vars(bellrest).items() if not name.startswith("__")]
        self.assertEqual([name for name in names if not inspect.ismodule(getattr(bellrest, name))], [])


if __name__ == "__main__":
    unittest.main()
