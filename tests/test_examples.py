"""The examples of the document, word for word."""

import doctest
import unittest

from bellrest.gates import Gate
from bellrest.moments import moment_text, read_moment
from bellrest.pathtables import path_table
from bellrest.shutting import is_shut, shut
from bellrest.spans import read_span, span_text
from helpers import door

ROWS = {
    "moments": """
>>> from bellrest.moments import moment, added, whole_and_part
>>> added(moment(6, 4), (1, 3), (1, 6))
(2, 1)
>>> whole_and_part((7, 2))
(3, (1, 2))
""",
    "spans": """
>>> from bellrest.spans import span, span_meet, hour_span
>>> span_meet(span(1, 4, high_reach=0), span(2, low_reach=0))
((2, 0), (4, 0))
>>> hour_span(3, "up")
((2, 0), (3, 1))
""",
    "shutting": """
>>> from bellrest.tables import table_with
>>> from bellrest.shutting import shut, ring, way
>>> shut(table_with(2, (1, 2, (1, 1)), (2, 0, (3, 0))))
(((0, 1), (0, 1), (0, 1)), ((4, 0), (0, 1), (1, 1)), ((3, 0), (3, 0), (0, 1)))
>>> way(table_with(2, (1, 2, (1, 1)), (2, 0, (3, 0))), 1, 0)
(1, 2, 0)
""",
    "lots": """
>>> from bellrest.tables import table_with
>>> from bellrest.lots import Lot
>>> lot = Lot.everything(1) - Lot(1, table_with(1, (1, 0, (2, 1))))
>>> (((2, 1),) in lot, ((5, 2),) in lot)
(False, True)
""",
    "running": """
>>> from bellrest.gates import Gate
>>> from bellrest.running import standings, room
>>> lines = ["gate door", "clocks x", "state shut", "state ajar x<=2", "step shut push ajar when x[1,) restart x", "step ajar bell shut", ""]
>>> door = Gate.read("\\n".join(lines))
>>> standings(door, (((3, 2), "push"), ((2, 1), "bell")))
(('shut', ((1, 2),)),)
>>> room(door, ("ajar", ((1, 2),)))
((3, 2), 1)
""",
    "kinds": """
>>> from bellrest.kinds import kind_of, rests_of
>>> kind_of(((1, 2), (5, 3), (4, 1)), (2, 2, 1))
((0, 1, 2), ((), (1,), (2,)))
>>> list(rests_of(((0,), ((1,),)), (1,)))
[((0,), ((1,),)), ((0,), ((), (1,))), ((1,), ((1,),)), ((2,), ((),))]
""",
    "watchers": """
>>> from bellrest.watchers import label, pace
>>> (label(0), label(25), label(26))
('a', 'z', 'ba')
>>> pace("calm", ((1, 1), None), ("push", "bell")).steps
(('go', 'bell', (('c', ((1, 1), None)),), ('c',), 'go'), ('go', 'push', (('c', ((1, 1), None)),), ('c',), 'go'))
""",
    "timing": """
>>> from bellrest.timing import soonest, first_span, between
>>> soonest(door, ("ajar", (("x", ((1, 0), None)),)))
(2, 0)
>>> first_span(door, "push")
((1, 1), None)
>>> between(door, "push", "bell")
((0, 1), (2, 1))
""",
    "sights": """
>>> from bellrest.sights import RoundedSight, WindowSight
>>> RoundedSight(((1, "push"), (2, "bell")), ("creak",)).text()
'rounded down: [1,2) push, [2,3) bell hiding creak'
>>> WindowSight(((2, 1), (3, 1)), ()).fits((((1, 1), "push"), ((4, 1), "bell")))
True
""",
    "surely": """
>>> from bellrest.sights import BareSight
>>> from bellrest.surely import moment_span
>>> moment_span(door, BareSight(("push", "bell", "push")), 2)
((2, 1), None)
""",
    "slack": """
>>> from bellrest.slack import slack
>>> slack(door, (((3, 2), "push"), ((2, 1), "bell")), (0, 1), 1)
(((0, 1), 1), ((2, 1), 1))
""",
}


class TestRows(unittest.TestCase):
    def test_rows(self):
        for name, text in ROWS.items():
            example = doctest.DocTestParser().get_doctest(text, {"door": door()}, name, None, 0)
            told = []
            result = doctest.DocTestRunner(verbose=False).run(example, out=told.append)
            self.assertEqual(result.failed, 0, "".join(told))
            self.assertEqual(result.attempted, text.count(">>>"))


class TestPoints(unittest.TestCase):
    def test_10(self):
        self.assertEqual(moment_text((7, 2)), "7/2")
        self.assertEqual(moment_text((3, 1)), "3")
        self.assertEqual(read_moment("7/2"), (7, 2))
        self.assertEqual(read_moment("3"), (3, 1))

    def test_12(self):
        for text, value in (("[2,5)", ((2, 1), (5, 0))), ("(0,7]", ((0, 0), (7, 1))), ("(0,)", ((0, 0), None))):
            self.assertEqual(read_span(text), value)
            self.assertEqual(span_text(value), text)

    def test_22(self):
        table = ((None, (-1, 0)), ((4, 1), None))
        self.assertEqual(shut(table), (((0, 1), (-1, 0)), ((4, 1), (0, 1))))
        self.assertIs(is_shut(shut(table)), True)
        self.assertIs(is_shut(table), False)

    def test_32(self):
        door = Gate("door", ("x",), (("shut", ()), ("ajar", (("x", (2, 1)),))), (("shut", "push", (("x", ((1, 1), None)),), ("x",), "ajar"), ("ajar", "bell", (), (), "shut")))
        text = """gate door
clocks x
state shut
state ajar x<=2
step shut push ajar when x[1,) restart x
step ajar bell shut
"""
        self.assertEqual(door.text(), text)
        self.assertEqual(Gate.read(text).text(), text)

    def test_36(self):
        table = (((0, 1), (-1, 1), (-1, 1)), (None, (0, 1), (0, 1)), (None, (2, 1), (0, 1)))
        self.assertEqual(path_table(door(), (0,)), table)


if __name__ == "__main__":
    unittest.main()
