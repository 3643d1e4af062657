"""Points 104 to 106: the bench."""

import math
import unittest
from fractions import Fraction

from bellrest.bench import Bench, Trial, tried
from bellrest.errors import (
    BellError, InvalidGoal, InvalidGrain, NotLet, NothingToRedo, NothingToUndo, OffGrain, RestBlocked, UnknownMark, UnknownName)
from bellrest.gates import Gate
from bellrest.leading import plan
from bellrest.moments import added
from bellrest.reach import find
from bellrest.running import is_run, room, standing_after, start, steps_let
from bellrest.spots import spot_of, spot_rest
from helpers import (
    ODD_VALUES, Walk, as_moment, door, following_kinds, fraction, kind_oracle, raised, random_gates, random_goal, random_moment, seeded, wrong_goals)

S = (("s", ()),)
TWO = Gate("two", ("x",), (("s", ()), ("t", (("x", (3, 1)),))),
           (("s", "push", (), ("x",), "t"), ("s", "push", (), (), "t"), ("s", "bell", (), (), "t"), ("t", "push", (("x", ((2, 1), None)),), (), "s"), ("s", "push", (), (), "s")))


def state_of(bench):
    """All that can be seen of a bench."""
    return bench.moment, bench.standing, bench.row, bench.path, bench.left, bench.grain, bench.lets(), bench.room_now()


def marks_of(bench, names):
    """The numbers of actions that the marks remember, found by going back; the bench is not changed."""
    found = {}
    for name in names:
        with bench.trial() as same:
            try:
                same.back_to(name)
                found[name] = same.left[0]
            except UnknownMark:
                pass
    return found


class Model:
    """A bench as a list of actions: what points 104 and 105 say, one by one."""

    def __init__(self, gate):
        self.gate = gate
        self.done, self.undone, self.marks, self.grain = [], [], {}, 0

    def walk(self, count=None):
        walk, moment, row, path = Walk(self.gate), Fraction(0), [], []
        for kind, value in self.done if count is None else self.done[:count]:
            if kind == "rest":
                assert walk.rest(value)
                moment += value
            else:
                assert walk.step(value, self.gate.steps[value][1])
                row.append((as_moment(moment), self.gate.steps[value][1]))
                path.append(value)
        return walk, moment, tuple(row), tuple(path)

    def act(self, action):
        """Do an action, or return the error with its attributes."""
        walk = self.walk()[0]
        if action[0] == "rest":
            rest = fraction(action[1])
            if self.grain and (rest * self.grain).denominator != 1:
                return OffGrain, {"value": action[1]}
            state = walk.state
            if not walk.rest(rest):
                return RestBlocked, {"state": state}
            self.done.append(("rest", rest))
        else:
            choice = action[2] if len(action) > 2 else 0
            if action[1] not in self.gate.deeds:
                return UnknownName, {"name": action[1]}
            steps = [step for step in steps_let(self.gate, walk.standing()) if self.gate.steps[step][1] == action[1]]
            if not 0 <= choice < len(steps):
                return NotLet, {"index": choice}
            self.done.append(("do", steps[choice]))
        self.undone = []
        return None

    def undo(self):
        if not self.done:
            return NothingToUndo, {}
        self.undone.append(self.done.pop())
        self.marks = {name: count for name, count in self.marks.items() if count <= len(self.done)}
        return None

    def again(self):
        if not self.undone:
            return NothingToRedo, {}
        self.done.append(self.undone.pop())
        return None

    def back_to(self, name):
        if name not in self.marks:
            return UnknownMark, {"name": name}
        while len(self.done) > self.marks[name]:
            self.undo()
        return None

    def copy(self):
        made = Model(self.gate)
        made.done, made.undone, made.marks, made.grain = list(self.done), list(self.undone), dict(self.marks), self.grain
        return made

    def state(self):
        walk, moment, row, path = self.walk()
        standing = walk.standing()
        lets = tuple(sorted({self.gate.steps[step][1] for step in steps_let(self.gate, standing)}))
        return (as_moment(moment), standing, row, path, (len(self.done), len(self.undone)), self.grain, lets, room(self.gate, standing))


class Base(unittest.TestCase):
    def same(self, bench, model):
        self.assertEqual(state_of(bench), model.state())
        self.assertEqual(marks_of(bench, ("a", "b", "c")), model.marks)

    def does(self, expected, function, *arguments):
        """Call the function, which returns None or raises the expected error."""
        if expected is None:
            self.assertIsNone(function(*arguments))
        else:
            self.assertEqual(raised(self, expected[0], function, *arguments), expected[1])

    def random_call(self, chance, gate, bench, model):
        kind = chance.randint(0, 9)
        if kind <= 3:
            action = random_action(chance, gate)
            expected = model.act(action)
            self.does(expected, getattr(bench, action[0]), *action[1:])
        elif kind == 4:
            expected = model.undo()
            self.does(expected, bench.undo)
        elif kind == 5:
            expected = model.again()
            self.does(expected, bench.again)
        elif kind == 6:
            expected, name = None, chance.choice("abc")
            model.marks[name] = len(model.done)
            self.assertIsNone(bench.mark(name))
        elif kind == 7:
            name = chance.choice("abc")
            expected = model.back_to(name)
            self.does(expected, bench.back_to, name)
        elif kind == 8:
            expected, model.grain = None, chance.choice((0, 0, 1, 2, 4, 60))
            self.assertIsNone(bench.change_grain(model.grain))
        else:
            expected = self.random_actions(chance, gate, bench, model)
        return expected

    def random_actions(self, chance, gate, bench, model):
        """Several actions, all or none."""
        actions = [random_action(chance, gate) for _ in range(chance.randint(0, 3))]
        after, expected = model.copy(), None
        for action in actions:
            expected = expected or after.act(action)
        for function in (bench.peek, bench.attempt):
            before = state_of(bench)
            if expected:
                self.assertEqual(raised(self, expected[0], function, *actions), expected[1])
            else:
                self.assertEqual(function(*actions), after.walk()[0].standing())
            if expected or function == bench.peek:
                self.assertEqual(state_of(bench), before)
                self.same(bench, model)
        if not expected:
            model.done, model.undone = after.done, after.undone
        return expected


def random_action(chance, gate):
    kind = chance.randint(0, 5)
    if kind <= 2:
        return "rest", chance.choice(((0, 1), (1, 2), (1, 1), random_moment(chance, 2, 4)))
    deed = chance.choice(gate.deeds + ("push", "knock"))
    return ("do", deed) if kind <= 4 else ("do", deed, chance.randint(-1, 2))


class TestBench(Base):
    def test_random(self):
        chance = seeded(104)
        errors = set()
        for gate in [TWO, door()] * 10 + random_gates(104, 120):
            bench, model = Bench(gate), Model(gate)
            self.assertIs(bench.gate, gate)
            self.same(bench, model)
            for _ in range(25):
                expected = self.random_call(chance, gate, bench, model)
                errors.add(None if expected is None else expected[0])
                self.same(bench, model)
        self.assertEqual(errors, {None, OffGrain, RestBlocked, UnknownName, NotLet, NothingToUndo, NothingToRedo, UnknownMark})

    def test_the_run(self):
        bench = Bench(door())
        self.assertEqual((bench.moment, bench.standing, bench.row, bench.path, bench.left), ((0, 1), start(door()), (), (), (0, 0)))
        bench.rest((1, 2))
        bench.rest((1, 1))
        bench.do("push")
        bench.rest((0, 1))
        bench.do("bell")
        bench.rest((5, 3))
        self.assertEqual((bench.moment, bench.row, bench.path, bench.left), ((19, 6), (((3, 2), "push"), ((3, 2), "bell")), (0, 1), (6, 0)))
        self.assertIs(is_run(door(), (bench.row, bench.path, (5, 3))), True)
        self.assertEqual(bench.standing, standing_after(door(), (bench.row, bench.path, (5, 3))))
        self.assertEqual(bench.lets(), ("push",))
        self.assertIsNone(bench.room_now())

    def test_choices(self):
        bench = Bench(TWO)
        self.assertEqual(bench.lets(), ("bell", "push"))
        for choice, step in ((0, 0), (1, 1), (2, 4)):
            bench.do("push", choice)
            self.assertEqual(bench.path, (step,))
            bench.undo()
        for choice in (3, -1, 10 ** 20):
            self.assertEqual(raised(self, NotLet, bench.do, "push", choice), {"index": choice})
            self.assertEqual(raised(self, UnknownName, bench.do, "knock", choice), {"name": "knock"})
        bench.do("push", 2)
        bench.do("push")
        bench.undo()
        bench.undo()
        bench.again()
        # The same step as before, whatever else could be chosen.
        self.assertEqual(bench.path, (4,))
        bench.again()
        self.assertEqual(bench.path, (4, 0))
        self.assertEqual(raised(self, NotLet, bench.do, "bell"), {"index": 0})

    def test_errors_change_nothing(self):
        bench = Bench(door())
        bench.rest((1, 1))
        bench.do("push")
        bench.rest((1, 1))
        bench.undo()
        before = state_of(bench)
        self.assertEqual(raised(self, RestBlocked, bench.rest, (5, 2)), {"state": "ajar"})
        self.assertEqual(raised(self, UnknownName, bench.do, "x"), {"name": "x"})
        self.assertEqual(raised(self, NotLet, bench.do, "push"), {"index": 0})
        self.assertEqual(raised(self, NotLet, bench.do, "bell", 1), {"index": 1})
        self.assertEqual(raised(self, UnknownMark, bench.back_to, "a"), {"name": "a"})
        self.assertEqual(raised(self, RestBlocked, bench.attempt, ("rest", (1, 1)), ("do", "bell"), ("do", "push"), ("rest", (9, 1))), {"state": "ajar"})
        self.assertEqual(state_of(bench), before)
        bench.again()
        self.assertEqual(bench.moment, (2, 1))

    def test_benches_share_nothing(self):
        one, other = Bench(door()), Bench(door())
        one.rest((1, 1))
        one.grain = 4
        one.mark("a")
        self.assertEqual((other.moment, other.grain, other.left), ((0, 1), 0, (0, 0)))
        self.assertEqual(raised(self, UnknownMark, other.back_to, "a"), {"name": "a"})

    def test_attributes(self):
        self.assertEqual(Bench.MOST_GRAIN, 60)
        bench = Bench(door())
        for name in ("moment", "standing", "row", "path", "left"):
            with self.assertRaises(AttributeError):
                setattr(bench, name, None)


class TestGrain(Base):
    def test_values(self):
        bench = Bench(door())
        for value in (0, 1, 2, 59, 60):
            bench.grain = value
            self.assertEqual(bench.grain, value)
            self.assertIsNone(bench.change_grain(60 - value))
            self.assertEqual(bench.grain, 60 - value)
        bench.grain = 7
        for value in (61, -1, 10 ** 30, True, False, None, "7", (7,), (), [7], ((),)) + tuple(item for item in ODD_VALUES if type(item) is not int or item > 60):
            self.assertEqual(raised(self, InvalidGrain, bench.change_grain, value), {"value": value})
            self.assertEqual(raised(self, InvalidGrain, setattr, bench, "grain", value), {"value": value})
            self.assertEqual(bench.grain, 7)

    def test_rests(self):
        bench = Bench(Gate("g", ("x",), (("s", (("x", (3, 0)),)),), ()))
        for grain in (0, 1, 2, 3, 12, 60):
            bench.grain = grain
            for numerator in range(8):
                for denominator in (1, 2, 3, 4, 5, 7, 60, 120):
                    rest = as_moment(Fraction(numerator, denominator))
                    if grain and Fraction(numerator, denominator) * grain % 1:
                        self.assertEqual(raised(self, OffGrain, bench.rest, rest), {"value": rest})
                    elif numerator >= 3 * denominator:
                        self.assertEqual(raised(self, RestBlocked, bench.rest, rest), {"state": "s"})
                    else:
                        bench.rest(rest)
                        self.assertEqual(bench.moment, rest)
                        bench.undo()
        # Off the grain comes before a rest that is not let.
        bench.grain = 60
        self.assertEqual(raised(self, OffGrain, bench.rest, (302, 7)), {"value": (302, 7)})
        self.assertEqual(raised(self, RestBlocked, bench.rest, (43, 1)), {"state": "s"})

    def test_the_grain_concerns_rests_of_new_actions(self):
        bench = Bench(door())
        bench.rest((1, 3))
        bench.undo()
        bench.grain = 2
        # The moments need not be on the grain, and what is done again is not asked.
        bench.again()
        self.assertEqual(bench.moment, (1, 3))
        bench.rest((1, 2))
        self.assertEqual(bench.moment, (5, 6))
        self.assertEqual(raised(self, OffGrain, bench.rest, (1, 6)), {"value": (1, 6)})
        self.assertEqual(raised(self, OffGrain, bench.peek, ("rest", (1, 6))), {"value": (1, 6)})
        self.assertEqual(raised(self, OffGrain, bench.attempt, ("rest", (1, 2)), ("rest", (1, 6))), {"value": (1, 6)})
        self.assertEqual(bench.left, (2, 0))

    def test_no_action(self):
        bench = Bench(door())
        bench.rest((1, 1))
        bench.mark("a")
        bench.rest((1, 1))
        bench.undo()
        bench.change_grain(3)
        self.assertEqual(bench.left, (1, 1))
        for call in (bench.again, bench.undo, bench.again):
            call()
            self.assertEqual(bench.grain, 3)
        bench.back_to("a")
        bench.peek(("rest", (1, 3)))
        self.assertEqual((bench.grain, bench.left), (3, (1, 1)))


class TestMarks(Base):
    def test_marks(self):
        bench = Bench(door())
        bench.mark("start")
        bench.rest((1, 1))
        bench.mark("one")
        bench.do("push")
        bench.mark("two")
        bench.do("bell")
        bench.back_to("two")
        self.assertEqual((bench.path, bench.left), ((0,), (2, 1)))
        bench.back_to("two")
        bench.again()
        bench.back_to("one")
        self.assertEqual((bench.path, bench.left), ((), (1, 2)))
        # The later mark is removed, and does not come back.
        self.assertEqual(raised(self, UnknownMark, bench.back_to, "two"), {"name": "two"})
        bench.again()
        bench.again()
        self.assertEqual(bench.path, (0, 1))
        self.assertEqual(raised(self, UnknownMark, bench.back_to, "two"), {"name": "two"})
        bench.back_to("start")
        self.assertEqual(bench.left, (0, 3))
        self.assertEqual(raised(self, UnknownMark, bench.back_to, "one"), {"name": "one"})

    def test_replaced_marks(self):
        bench = Bench(door())
        bench.mark("a")
        bench.rest((1, 1))
        bench.mark("a")
        bench.rest((1, 1))
        bench.back_to("a")
        self.assertEqual(bench.moment, (1, 1))
        bench.undo()
        # The earlier mark with this name was replaced for good.
        self.assertEqual(raised(self, UnknownMark, bench.back_to, "a"), {"name": "a"})

    def test_new_actions_after_going_back(self):
        bench = Bench(door())
        bench.rest((1, 1))
        bench.mark("a")
        bench.rest((1, 2))
        bench.back_to("a")
        bench.rest((3, 1))
        bench.back_to("a")
        bench.again()
        self.assertEqual(bench.moment, (4, 1))
        self.assertEqual(raised(self, NothingToRedo, bench.again), {})


class TestTrials(Base):
    def filled(self):
        bench = Bench(door())
        bench.grain = 4
        bench.rest((1, 1))
        bench.mark("a")
        bench.do("push")
        bench.mark("b")
        bench.rest((1, 2))
        bench.rest((3, 4))
        bench.undo()
        bench.undo()
        return bench

    def everything(self, bench):
        return state_of(bench), marks_of(bench, ("a", "b", "c"))

    def disturb(self, bench):
        bench.grain = 0
        bench.again()
        bench.rest((1, 7))
        bench.mark("c")
        bench.mark("a")
        bench.do("bell")
        bench.back_to("b")
        bench.undo()
        bench.undo()
        bench.rest((5, 1))

    def test_trial(self):
        bench = self.filled()
        before = self.everything(bench)
        with bench.trial() as same:
            self.assertIs(same, bench)
            self.assertEqual(self.everything(bench), before)
            self.disturb(bench)
            self.assertNotEqual(self.everything(bench), before)
        self.assertEqual(self.everything(bench), before)
        bench.again()
        self.assertEqual(bench.moment, (3, 2))

    def test_errors_in_the_block(self):
        for error in (ValueError("no"), KeyError(1), NotLet(7), KeyboardInterrupt()):
            bench = self.filled()
            before = self.everything(bench)
            with self.assertRaises(type(error)) as caught:
                with bench.trial() as same:
                    self.disturb(same)
                    raise error
            self.assertIs(caught.exception, error)
            self.assertEqual(self.everything(bench), before)
        bench = self.filled()
        before = self.everything(bench)
        with self.assertRaises(RestBlocked) as caught:
            with bench.trial():
                bench.rest((1, 1))
                bench.rest((2, 1))
        self.assertEqual(vars(caught.exception), {"state": "ajar"})
        self.assertEqual(self.everything(bench), before)

    def test_trials_within_trials(self):
        bench = self.filled()
        before = self.everything(bench)
        with bench.trial():
            bench.again()
            middle = self.everything(bench)
            with bench.trial() as same:
                self.disturb(same)
                with same.trial():
                    same.undo()
                bench.change_grain(9)
            self.assertEqual(self.everything(bench), middle)
            bench.undo()
        self.assertEqual(self.everything(bench), before)

    def test_one_trial_for_several_blocks(self):
        bench = self.filled()
        trial = bench.trial()
        self.assertIs(type(trial), Trial)
        self.assertIsNot(bench.trial(), trial)
        # The block begins where it is entered, not where the trial was made.
        bench.again()
        before = self.everything(bench)
        for _ in range(2):
            with trial as same:
                self.assertIs(same, bench)
                self.disturb(bench)
                middle = self.everything(bench)
                with trial:
                    bench.rest((2, 1))
                    bench.grain = 11
                self.assertEqual(self.everything(bench), middle)
                bench.undo()
            self.assertEqual(self.everything(bench), before)
        made = Trial(bench)
        with made as same:
            bench.undo()
        self.assertIs(same, bench)
        self.assertEqual(self.everything(bench), before)

    def test_one_trial_inside_itself_with_errors(self):
        bench = self.filled()
        trial = bench.trial()
        before = self.everything(bench)
        error = KeyError(1)
        with self.assertRaises(KeyError) as caught:
            with trial:
                bench.again()
                bench.mark("c")
                second = self.everything(bench)
                with self.assertRaises(ValueError):
                    with trial:
                        self.disturb(bench)
                        third = self.everything(bench)
                        with self.assertRaises(UnknownName):
                            with trial:
                                bench.rest((1, 1))
                                bench.grain = 7
                                bench.do("knock")
                        self.assertEqual(self.everything(bench), third)
                        raise ValueError("no")
                self.assertEqual(self.everything(bench), second)
                with trial:
                    bench.undo()
                self.assertEqual(self.everything(bench), second)
                raise error
        self.assertIs(caught.exception, error)
        self.assertEqual(self.everything(bench), before)
        # Nothing is left in the trial either: what it saved next time is what there is then.
        bench.rest((1, 4))
        before = self.everything(bench)
        with trial:
            self.disturb_after_rest(bench)
        self.assertEqual(self.everything(bench), before)

    def disturb_after_rest(self, bench):
        bench.change_grain(3)
        bench.back_to("a")
        bench.mark("b")
        bench.rest((2, 3))

    def test_two_trials_inside_each_other(self):
        bench, other = self.filled(), Bench(TWO)
        one, two, third = bench.trial(), Trial(bench), other.trial()
        states = []
        with one:
            bench.again()
            states.append(self.everything(bench))
            with two, third:
                bench.rest((1, 4))
                other.do("push", 2)
                states.append(self.everything(bench))
                with one:
                    bench.mark("c")
                    bench.undo()
                    states.append(self.everything(bench))
                    with two:
                        self.disturb(bench)
                        other.rest((1, 3))
                    self.assertEqual(self.everything(bench), states.pop())
                self.assertEqual(self.everything(bench), states.pop())
                # The trial of one bench puts nothing back into another one.
                self.assertEqual((other.path, other.moment), ((4,), (1, 3)))
                bench.grain = 1
            self.assertEqual(self.everything(bench), states.pop())
            self.assertEqual((other.path, other.left), ((), (0, 0)))
        self.assertEqual((states, self.everything(bench)), ([], self.everything(self.filled())))

    def test_changes_by_all_names_are_put_back(self):
        bench = self.filled()
        before = self.everything(bench)
        with bench.trial() as same:
            same.rest((1, 4))
            with same.trial() as more:
                more.do("bell")
                self.assertEqual((bench.path, same.path, more.path), ((0, 1), (0, 1), (0, 1)))
                self.assertEqual(bench.left, (4, 0))
            self.assertEqual((bench.left, same.left), ((3, 0), (3, 0)))
        self.assertEqual(self.everything(bench), before)
        with bench.trial() as same:
            pass
        # The name still is the bench when the block has ended.
        same.again()
        self.assertEqual((bench.moment, bench.left), ((3, 2), (3, 1)))

    def test_random_blocks(self):
        chance = seeded(110)
        self.blocks = {"done": 0, "error": 0, "inside itself": 0}
        for gate in [TWO, door()] * 10 + random_gates(110, 60):
            bench, model = Bench(gate), Model(gate)
            trials = [bench.trial(), Trial(bench)]
            for _ in range(4):
                self.random_call(chance, gate, bench, model)
                self.random_block(chance, gate, bench, model, trials, ())
        self.assertGreater(min(self.blocks.values()), 100)

    def random_block(self, chance, gate, bench, model, trials, entered):
        """A block of one of the trials, with calls and further blocks in it; it may end with an error."""
        number, error, inside = chance.randint(0, 1), chance.choice((None, ValueError("no"))), model.copy()
        self.blocks["inside itself"] += number in entered
        self.blocks["error" if error else "done"] += 1
        try:
            with trials[number] as same:
                self.assertIs(same, bench)
                self.same(bench, inside)
                for _ in range(chance.randint(1, 3)):
                    self.random_call(chance, gate, bench, inside)
                    if len(entered) < 4 and chance.randint(0, 1):
                        self.random_block(chance, gate, bench, inside, trials, (*entered, number))
                self.same(bench, inside)
                if error:
                    raise error
        except ValueError as caught:
            self.assertIs(caught, error)
        self.same(bench, model)

    def test_return_leaves_the_block(self):
        bench = self.filled()
        before = self.everything(bench)

        def work():
            with bench.trial() as same:
                self.disturb(same)
                return same.moment

        self.assertEqual(work(), (5, 1))
        self.assertEqual(self.everything(bench), before)

    def test_tried(self):
        bench = self.filled()
        before = self.everything(bench)
        self.assertEqual(tried(bench, lambda same: (same.attempt(("rest", (1, 1)), ("do", "bell")), same is bench)), (("shut", ((1, 1),)), True))
        self.assertIsNone(tried(bench, self.disturb))
        self.assertEqual(raised(self, UnknownName, tried, bench, lambda same: same.do("knock")), {"name": "knock"})
        self.assertEqual(tried(bench, lambda same: tried(same, lambda more: more.peek(("do", "bell")))), ("shut", ((0, 1),)))
        self.assertEqual(self.everything(bench), before)

    def test_attempt_and_peek(self):
        bench = self.filled()
        before = self.everything(bench)
        self.assertEqual(bench.peek(), ("ajar", ((0, 1),)))
        self.assertEqual(bench.attempt(), ("ajar", ((0, 1),)))
        self.assertEqual(self.everything(bench), before)
        actions = (("rest", (2, 1)), ("do", "bell"), ("do", "push", 0), ("rest", (0, 1)))
        self.assertEqual(bench.peek(*actions), ("ajar", ((0, 1),)))
        self.assertEqual(self.everything(bench), before)
        for wrong, error in ((("rest", (9, 1)), RestBlocked), (("rest", (1, 3)), OffGrain), (("do", "knock"), UnknownName), (("do", "bell", 1), NotLet), (("do", "push", -1), NotLet)):
            for function in (bench.peek, bench.attempt):
                raised(self, error, function, *actions, wrong)
                raised(self, error, function, wrong)
                self.assertEqual(self.everything(bench), before)
        self.assertEqual(bench.attempt(*actions), ("ajar", ((0, 1),)))
        # Each one is an action of its own.
        self.assertEqual((bench.left, bench.path), ((6, 0), (0, 1, 0)))
        bench.undo()
        bench.undo()
        self.assertEqual((bench.left, bench.path, bench.moment), ((4, 2), (0, 1), (3, 1)))
        bench.back_to("b")
        self.assertEqual(bench.left, (2, 4))


class TestQuestions(Base):
    def test_small_rest(self):
        chance = seeded(105)
        kinds = set()
        for gate in random_gates(105, 150):
            bench = Bench(gate)
            for _ in range(8):
                rest = bench.small_rest()
                spot = spot_of(gate, bench.standing)
                after = spot_rest(gate, spot)
                kinds.add((after is None, after == spot))
                bench.grain = chance.choice((0, 1))
                self.assertEqual(bench.small_rest(), rest)
                if after is None:
                    self.assertIsNone(rest)
                elif after == spot:
                    self.assertEqual(rest, (0, 1))
                else:
                    self.check_rest(gate, bench.standing, rest, after)
                bench.grain = 0
                self.random_move(chance, gate, bench, rest)
        self.assertEqual(kinds, {(True, False), (False, True), (False, False)})

    def check_rest(self, gate, standing, rest, after):
        """The rest leads to the next spot and through no third one."""
        readings = standing[1]
        kinds = following_kinds(readings, gate.ceilings)
        target = tuple(added(reading, rest) for reading in readings)
        self.assertEqual((standing[0], kind_oracle(target, gate.ceilings)), after)
        self.assertEqual(kinds[1], after[1])

    def random_move(self, chance, gate, bench, rest):
        deeds = bench.lets()
        if deeds and chance.randint(0, 1):
            bench.do(chance.choice(deeds))
        elif rest is not None and chance.randint(0, 3):
            bench.rest(rest)
        else:
            try:
                bench.rest(random_moment(chance, 1))
            except RestBlocked:
                pass

    def test_can_meet(self):
        chance = seeded(106)
        told = [0, 0]
        for gate in random_gates(106, 200):
            bench = Bench(gate)
            for _ in range(4):
                goal = random_goal(chance, gate, 3)
                found = bench.can_meet(goal)
                self.assertIs(found, self.can_meet_oracle(gate, bench.standing, goal))
                told[found] += 1
                bench.grain = chance.choice((0, 1))
                self.assertIs(bench.can_meet(goal), found)
                bench.grain = 0
                self.random_move(chance, gate, bench, bench.small_rest())
        self.assertGreater(min(told), 100)

    def can_meet_oracle(self, gate, standing, goal):
        """A further clock keeps the gate in a state of its own until it stands there; then find tells."""
        state, readings = standing
        lead = max(map(fraction, readings))
        order = sorted(zip(readings, gate.clocks), key=lambda pair: -fraction(pair[0]))
        # All limits are counted in parts of an hour, so that the readings are whole.
        scale = math.lcm(*[reading[1] for reading in readings])
        states = tuple((name, tuple((clock, (limit * scale, reach)) for clock, (limit, reach) in stay)) for name, stay in gate.states)
        steps = [(source, deed, scaled(test, scale), restarts, target) for source, deed, test, restarts, target in gate.steps]
        names = ["wait" + "abc"[number] for number in range(len(order) + 1)]
        for number, (reading, clock) in enumerate(order):
            moment = int((lead - fraction(reading)) * scale)
            steps.append((names[number], "wait", (("t", ((moment, 1), (moment, 1))),), (clock,), names[number + 1]))
        moment = int(lead * scale)
        steps.append((names[-1], "wait", (("t", ((moment, 1), (moment, 1))),), (), state))
        led = Gate("led", gate.clocks + ("t",), tuple((name, ()) for name in names) + states, tuple(steps))
        goals = [goal[0]] if goal[0] else [name for name, _ in gate.states]
        return any(find(led, (name, scaled(goal[1], scale))) is not None for name in goals)

    def test_can_meet_at_the_edges(self):
        bench = Bench(door())
        ajar = ("ajar", (("x", ((2, 1), (2, 1))),))
        self.assertIs(bench.can_meet(ajar), True)
        self.assertIs(bench.can_meet(("shut", (("x", ((0, 1), (0, 1))),))), True)
        bench.rest((1, 100))
        # Now x reads zero only directly after a push.
        self.assertIs(bench.can_meet(("shut", (("x", ((0, 1), (0, 1))),))), True)
        bench = Bench(Gate("g", ("x",), (("s", (("x", (2, 1)),)), ("t", ())), (("s", "go", (("x", ((1, 1), (1, 1))),), (), "t"),)))
        self.assertIs(bench.can_meet(("t", ())), True)
        bench.rest((1, 1))
        self.assertIs(bench.can_meet(("t", ())), True)
        bench.rest((1, 10 ** 11))
        self.assertIs(bench.can_meet(("t", ())), False)
        self.assertIs(bench.can_meet(("s", (("x", ((1, 0), (2, 0))),))), True)
        self.assertIs(bench.can_meet((None, ())), True)

    def test_wrong_goals(self):
        bench = Bench(door())
        for value in wrong_goals(door(), ("ajar", (("x", ((0, 1), (1, 1))),))):
            self.assertEqual(raised(self, InvalidGoal, bench.can_meet, value), {"value": value})

    def test_advice(self):
        chance = seeded(107)
        led = 0
        for gate in [door()] + random_gates(107, 150):
            for aim, _ in gate.states:
                ours = tuple(deed for deed in gate.deeds if deed != "bell")
                made = plan(gate, ours, aim)
                if made is not None:
                    self.follow(chance, gate, ours, aim, made)
                    led += 1
        self.assertGreater(led, 100)
        bench = Bench(door())
        self.assertIsNone(bench.advice(()))
        self.assertIsNone(bench.advice(((("shut", ((0,), ((), (1,)))), 1, "rest"),)))
        self.assertEqual(bench.advice(((("shut", ((0,), ((1,),))), 1, "rest"),)), "rest")
        bench.attempt(("rest", (7, 2)), ("do", "push"))
        self.assertIsNone(bench.advice(plan(door(), (), "shut")))

    def follow(self, chance, gate, ours, aim, made):
        """Led by the plan, while others do what they like, the bench gets into the aim."""
        bench = Bench(gate)
        ranks = {spot: rank for spot, rank, _ in made}
        rank = ranks[spot_of(gate, bench.standing)] + 1
        while bench.advice(made) != "done":
            self.assertLess(ranks[spot_of(gate, bench.standing)], rank)
            rank = ranks[spot_of(gate, bench.standing)]
            others = [deed for deed in bench.lets() if deed not in ours]
            if others and chance.randint(0, 1):
                bench.do(chance.choice(others))
            elif bench.advice(made) == "rest":
                bench.rest(bench.small_rest())
            else:
                step = bench.advice(made)
                steps = [one for one in steps_let(gate, bench.standing) if gate.steps[one][1] == gate.steps[step][1]]
                bench.do(gate.steps[step][1], steps.index(step))
        self.assertEqual(bench.standing[0], aim)


def scaled(test, scale):
    return tuple((clock, (((low[0] * scale), low[1]), None if high is None else (high[0] * scale, high[1]))) for clock, (low, high) in test)


class TestErrors(unittest.TestCase):
    def test_all_errors_are_bell_errors(self):
        bench = Bench(door())
        for call in (bench.undo, bench.again, lambda: bench.back_to("a"), lambda: bench.do("x"), lambda: bench.change_grain(-1)):
            with self.assertRaises(BellError):
                call()


if __name__ == "__main__":
    unittest.main()
