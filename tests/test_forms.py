"""The judges that bellrest/forms.py and bellrest/gateforms.py add: they take any value, too."""

import re
import unittest

from bellrest.forms import is_numeral, is_tuple_of, is_whole
from bellrest.gateforms import is_state, is_stay, is_stay_edge, is_step, is_test
from bellrest.running import is_entry, is_path
from bellrest.spans import is_limit_text
from bellrest.tables import is_condition, is_table_row
from helpers import ODD_VALUES, check_judge, door, moment_oracle, near_values, plain_int
from test_gates import GOOD, item_oracle, pairs_oracle, stay_edge_oracle
from test_names import simple_oracle
from test_tables import cap_oracle

KNOWN = {"clocks": GOOD[1], "states": GOOD[2]}
NAMES = [name for name, _ in GOOD[2]]


def numeral_oracle(value):
    return type(value) is str and re.fullmatch("0|[1-9][0-9]*", value) is not None


def condition_oracle(value):
    if type(value) is not tuple or len(value) != 3 or not all(map(plain_int, value[:2])) or not cap_oracle(value[2]):
        return False
    return all(0 <= number <= 2 for number in value[:2])


class TestForms(unittest.TestCase):
    def test_whole(self):
        check_judge(self, is_whole, (0, 1, -5, 10 ** 40), plain_int)

    def test_tuple_of(self):
        for size in range(4):
            for value in ODD_VALUES:
                self.assertIs(is_tuple_of(size, value), type(value) is tuple and len(value) == size)

    def test_numerals(self):
        check_judge(self, is_numeral, ("0", "7", "10", "9" * 50), numeral_oracle)
        for value in ("", "00", "07", "1\n", "+1", "-1", "1 ", "\u0661", "\u00b2", "1.0", "1_0", "a"):
            self.assertIs(is_numeral(value), False)

    def test_limit_texts(self):
        check_judge(self, is_limit_text, ("0", "999999999"), lambda value: numeral_oracle(value) and len(value) <= 9)
        self.assertIs(is_limit_text("1234567890"), False)

    def test_conditions(self):
        check_judge(self, lambda value: is_condition(2, value), ((0, 2, None), (1, 1, (-3, 0))), condition_oracle)

    def test_table_rows(self):
        check_judge(self, lambda value: is_table_row(2, value), ((None, (1, 0)),),
                    lambda value: type(value) is tuple and len(value) == 2 and all(map(cap_oracle, value)))

    def test_parts_of_gates(self):
        check_judge(self, lambda value: is_state(GOOD[1], value), GOOD[2], lambda value: item_oracle("states", value, KNOWN))
        check_judge(self, lambda value: is_step(GOOD[1], NAMES, value), GOOD[3], lambda value: item_oracle("steps", value, KNOWN))
        check_judge(self, lambda value: is_stay(GOOD[1], value), [stay for _, stay in GOOD[2]],
                    lambda value: pairs_oracle(GOOD[1], value, stay_edge_oracle))
        check_judge(self, is_stay_edge, ((0, 1), (3, 0)), stay_edge_oracle)
        self.assertIs(is_stay_edge((0, 0)), False)
        tests = [step[2] for step in GOOD[3]]
        for value in [*tests, *near_values(tests[0])]:
            self.assertIs(is_test(GOOD[1], value), bool(item_oracle("steps", ("shut", "push", value, (), "ajar"), KNOWN)))

    def test_entries_and_paths(self):
        check_judge(self, is_entry, (((1, 2), "push"),), lambda value: type(value) is tuple and len(value) == 2
                    and moment_oracle(value[0]) and simple_oracle(value[1]))
        check_judge(self, lambda value: is_path(door(), value), ((), (0,), (1, 0, 0)), lambda value: type(value) is tuple
                    and all(plain_int(step) and 0 <= step <= 1 for step in value))


if __name__ == "__main__":
    unittest.main()
