"""Every name, parameter and default value of the interface, in the file that lists it."""

import importlib
import inspect
import unittest

import bellrest
from bellrest.bench import Bench
from helpers import door

FUNCTIONS = {
    "moments": """
is_moment(value)
moment(numerator, denominator=1)
added(*moments)
since(first, second)
compared(first, second)
halfway(first, second)
whole_and_part(moment)
moment_text(moment)
read_moment(text)
""",
    "spans": """
is_edge(value)
is_span(value)
span(low, high=None, *, low_reach=1, high_reach=1)
in_span(moment, span)
span_meet(*spans)
span_cover(*spans)
span_added(first, second)
span_moment(span)
span_text(span)
read_span(text)
hour_of(moment, rounding='down')
hour_span(hour, rounding='down')
""",
    "tables": """
is_cap(value)
is_table(value)
is_readings(clocks, value)
add_caps(first, second)
least_cap(*caps)
cap_allows(cap, first, second)
keeps(table, readings)
anything(clocks)
all_zero(clocks)
table_with(clocks, *conditions)
""",
    "shutting": """
is_shut(value)
shut(table)
ring(table)
is_ring(table, value)
way(table, i, j)
is_way(table, i, j, cap, value)
""",
    "points": """
point(table)
near(table, i, j, within)
""",
    "moves": """
later(table)
earlier(table)
restart(table, clocks)
release(table, clocks)
cut(table, *tests)
meet(first, *more)
inside(one, other)
widen(table, ceilings)
""",
    "names": """
is_simple(value)
is_name(value)
""",
    "running": """
is_row(value)
is_standing(gate, value)
start(gate)
room(gate, standing)
rested(gate, standing, rest)
steps_let(gate, standing)
done(gate, standing, step)
lets(gate, row)
standings(gate, row)
paths(gate, row)
is_run(gate, value)
standing_after(gate, run)
""",
    "pathtables": """
path_table(gate, path, tests=())
run_with(gate, path, moments)
run_of(gate, path, tests=())
""",
    "kinds": """
kind_of(readings, ceilings)
is_kind(ceilings, value)
sample(kind, ceilings)
next_kind(kind, ceilings)
rests_of(kind, ceilings)
kind_in(kind, ceilings, clock, span)
restart_kind(kind, clocks)
answer(readings, rest, other, ceilings)
""",
    "kindtables": """
kind_table(kind, ceilings)
kinds_of(table, ceilings)
each_kind(ceilings)
count_kinds(ceilings)
""",
    "spots": """
spot_of(gate, standing)
is_spot(gate, value)
spot_rest(gate, spot)
spot_steps(gate, spot)
spot_after(gate, spot, step)
met_spots(gate)
is_closed_spots(gate, value)
moves_to(gate, spot)
run_of_moves(gate, moves)
""",
    "watchers": """
label(index)
pace(name, span, deeds)
window(name, span, deeds)
ban(name, deeds)
turns(name, deeds)
""",
    "goals": """
is_goal(gate, value)
meets(gate, goal, standing)
goal_ceilings(gate, goal)
""",
    "patches": """
is_closed_patches(gate, value)
avoids(gate, goal, patches)
""",
    "reach": """
find(gate, goal)
never(gate, goal)
""",
    "hands": """
first_hand_spot(gate, ceilings)
hand_rest(gate, ceilings, spot)
hand_after(gate, spot, step)
is_hours_table(gate, ceilings, value)
hours_table(gate, goal)
edge_from(gate, goal, table)
""",
    "timing": """
soonest(gate, goal)
soon_run(gate, goal, within)
first_span(gate, deed)
late_run(gate, deed, within)
longest_without(gate, deed)
between(gate, first, second)
""",
    "fitting": """
watched(gate, sight)
could(gate, sight)
first_wrong(gate, sight)
wrong_patches(gate, sight)
states_after(gate, sight)
""",
    "surely": """
moment_span(gate, sight, index)
how_many(gate, sight, index, deed)
surely(gate, sight, index, deed)
passage(gate, first, second, deed)
bare_rows(gate, length)
""",
    "within": """
extra_row(one, other)
within_table(one, other)
is_within_table(one, other, value)
""",
    "alike": """
alike(one, other)
parting_row(one, other)
alike_states(gate)
begun_at(gate, state)
bare_parting(one, other)
""",
    "hanging": """
stuck(gate, standing)
stuck_spots(gate)
hang_run(gate)
""",
    "hurrying": """
hurry(gate)
hurry_run(gate, rounds)
is_calm(gate, value)
calm_ranks(gate)
""",
    "slack": """
slack(gate, row, path, place)
rest_spans(gate, path)
""",
    "looks": """
fewest_looks(gate, row, hidden=())
""",
    "leading": """
is_plan(gate, ours, aim, value)
plan(gate, ours, aim)
is_trap(gate, ours, aim, value)
trap(gate, ours, aim)
""",
    "trimming": """
unused_steps(gate)
unmet_states(gate)
trimmed(gate)
""",
    "cases": """
is_fact(gate, length, value)
fact_holds(gate, fact, run)
""",
    "bench": """
tried(bench, work)
""",
    "plain": """
grid_rows(gate, length, parts, until)
grid_bare(gate, length, parts, until)
""",
}

DOOR = door()
SEEN = ((((1, 1), (2, 0)), "push"),)

# For each class its module, its constructor, its methods, and arguments with the attributes that follow.
CLASSES = {
    "Lot": ("lots", "(self, clocks, *tables)", """
__or__(self, other)
__and__(self, other)
__sub__(self, other)
__contains__(self, readings)
classmethod everything(cls, clocks)
classmethod nothing(cls, clocks)
tables(self)
is_empty(self)
example(self)
missing(self, other)
covers(self, other)
later(self)
earlier(self)
restart(self, *clocks)
release(self, *clocks)
""", (3,), {"clocks": 3}),
    "Gate": ("gates", "(self, name, clocks, states, steps, also=())", """
property deeds(self)
property ceilings(self)
clock_number(self, clock)
state_index(self, state)
stay_of(self, state)
steps_from(self, state)
overlap(self)
is_settled(self)
text(self)
staticmethod read(text)
""", ("g", ("x",), (("s", ()),), (), ("push",)),
        {"name": "g", "clocks": ("x",), "states": (("s", ()),), "steps": (), "also": ("push",)}),
    "Hall": ("halls", "(self, *gates)", """
property deeds(self)
owners(self, deed)
joined(self)
view(self, row, name)
lets(self, row)
""", (DOOR,), {"gates": (DOOR,)}),
    "Sight": ("sights", "(self, entries, hidden=())", """
fits(self, row)
text(self)
cut(self, count)
watcher(self, name, deeds)
""", (SEEN, ("hum",)), {"entries": SEEN, "hidden": ("hum",)}),
    "RoundedSight": ("sights", "(self, hours, hidden=(), *, rounding='down')", """
text(self)
cut(self, count)
""", (((1, "push"),),), {"entries": SEEN, "hidden": (), "hours": ((1, "push"),), "rounding": "down"}),
    "BareSight": ("sights", "(self, names, hidden=())", """
text(self)
cut(self, count)
""", (("push",),), {"entries": ((((0, 1), None), "push"),), "hidden": (), "names": ("push",)}),
    "WindowSight": ("sights", "(self, window, entries, hidden=())", """
fits(self, row)
text(self)
cut(self, count)
watcher(self, name, deeds)
""", (((0, 1), None), SEEN), {"entries": SEEN, "hidden": (), "window": ((0, 1), None)}),
    "Doubt": ("doubts", "(self, *gates)", """
saw(self, row)
missed(self, row)
undo(self)
remaining(self)
ask(self, row)
next_row(self)
""", (DOOR,), {}),
    "Case": ("cases", "(self, gate, length)", """
classmethod seen(cls, gate, sight)
tell(self, fact)
forget(self, number)
undo(self)
again(self)
facts(self)
closed(self)
ask(self, fact)
paths_left(self)
table(self, path)
example(self)
""", (DOOR, 2), {"gate": DOOR, "length": 2}),
    "Bench": ("bench", "(self, gate)", """
property moment(self)
property standing(self)
property row(self)
property path(self)
property left(self)
property grain(self)
change_grain(self, value)
rest(self, rest)
do(self, deed, choice=0)
undo(self)
again(self)
mark(self, name)
back_to(self, name)
attempt(self, *actions)
peek(self, *actions)
trial(self)
lets(self)
room_now(self)
small_rest(self)
can_meet(self, goal)
advice(self, plan)
""", (DOOR,), {"gate": DOOR}),
    "Trial": ("bench", "(self, bench)", """
__enter__(self)
__exit__(self, kind, value, trace)
""", (Bench(DOOR),), {}),
}
KINDS = {"property": property, "classmethod": classmethod, "staticmethod": staticmethod}


class TestFunctions(unittest.TestCase):
    def test_signatures(self):
        for name, text in FUNCTIONS.items():
            module = importlib.import_module("bellrest." + name)
            for line in text.split("\n"):
                if line:
                    function = vars(module)[line.partition("(")[0]]
                    self.assertTrue(inspect.isfunction(function))
                    self.assertEqual(function.__name__ + str(inspect.signature(function)), line)
                    self.assertEqual(function.__module__, module.__name__)

    def test_classes(self):
        for name, (file, constructor, methods, arguments, attributes) in CLASSES.items():
            module = importlib.import_module("bellrest." + file)
            made = vars(module)[name]
            self.assertEqual(made.__module__, module.__name__)
            self.assertEqual(str(inspect.signature(vars(made)["__init__"])), constructor)
            for line in methods.split("\n"):
                if line:
                    self.check_method(made, line)
            thing = made(*arguments)
            for attribute, value in attributes.items():
                self.assertEqual(vars(thing)[attribute], value)

    def check_method(self, made, line):
        kind, _, rest = line.partition(" ") if line.split(" ")[0] in KINDS else ("", "", line)
        method = vars(made)[rest.partition("(")[0]]
        if kind:
            self.assertIs(type(method), KINDS[kind])
            method = method.fget if kind == "property" else method.__func__
        self.assertTrue(inspect.isfunction(method))
        self.assertEqual(method.__name__ + str(inspect.signature(method)), rest)

    def test_kinds_of_sights(self):
        module = importlib.import_module("bellrest.sights")
        for name in ("RoundedSight", "BareSight", "WindowSight"):
            self.assertEqual(vars(module)[name].__bases__, (module.Sight,))

    def test_the_grain_has_a_setter(self):
        module = importlib.import_module("bellrest.bench")
        self.assertIsNotNone(vars(module.Bench)["grain"].fset)
        self.assertEqual(vars(module.Bench)["MOST_GRAIN"], 60)

    def test_generators(self):
        for name, function in (("kinds", "rests_of"), ("kindtables", "each_kind"), ("plain", "grid_rows")):
            module = importlib.import_module("bellrest." + name)
            self.assertTrue(inspect.isgeneratorfunction(vars(module)[function]))

    def test_the_package_binds_nothing(self):
        names = [name for name, value in vars(bellrest).items() if not name.startswith("__")]
        self.assertEqual([name for name in names if not inspect.ismodule(getattr(bellrest, name))], [])


if __name__ == "__main__":
    unittest.main()
