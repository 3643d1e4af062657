"""The bench: one run of a gate, led moment by moment."""

from bellrest.errors import InvalidGrain, NothingToRedo, NothingToUndo, NotLet, OffGrain, UnknownMark
from bellrest.forms import is_whole
from bellrest.goals import goal_ceilings
from bellrest.kinds import kind_of, rest_to
from bellrest.kindtables import kind_table
from bellrest.moments import added
from bellrest.patches import is_goal_in
from bellrest.running import after_step, rested, room, start, steps_let
from bellrest.spots import spot_of, spot_rest
from bellrest.timing import check_deed
from bellrest.zones import zones_from


class Held:
    """All that a bench holds. It never changes: every change of the bench makes a new one.

    Places are triples of a moment, a standing and the move that led there. They begin with the
    start and end with those that were taken back; at is the index of the place now. Marks are
    pairs of a name and the index of a place. The parts of an hour are the grain.
    """

    def __init__(self, places, at, marks, parts):
        self.places = places
        self.at = at
        self.marks = marks
        self.parts = parts


class Bench:
    """Leads one run of a gate."""

    MOST_GRAIN = 60

    def __init__(self, gate):
        self.gate = gate
        # The one item is what there is now; in a list, since trials share it and put back what there was.
        self._now = [Held((((0, 1), start(gate), "rest"),), 0, (), 0)]

    @property
    def moment(self):
        """The moment now."""
        held = self._now[0]
        return held.places[held.at][0]

    @property
    def standing(self):
        """The standing now."""
        held = self._now[0]
        return held.places[held.at][1]

    @property
    def row(self):
        """The row of the run."""
        return tuple([(moment, self.gate.steps[move][1]) for moment, move in steps_done(self._now[0])])

    @property
    def path(self):
        """The path of the run."""
        return tuple([move for _, move in steps_done(self._now[0])])

    @property
    def left(self):
        """How many actions can be taken back, and how many can be done again."""
        held = self._now[0]
        return held.at, len(held.places) - 1 - held.at

    @property
    def grain(self):
        """The number of parts of an hour of which rests are multiples; 0 lets all rests."""
        return self._now[0].parts

    @grain.setter
    def grain(self, value):
        self.change_grain(value)

    def change_grain(self, value):
        """Change the grain."""
        if not (is_whole(value) and 0 <= value <= Bench.MOST_GRAIN):
            raise InvalidGrain(value)
        held = self._now[0]
        self._now[0] = Held(held.places, held.at, held.marks, value)

    def rest(self, rest):
        """Rest."""
        self._now[0] = after_resting(self.gate, self._now[0], rest)

    def do(self, deed, choice=0):
        """Take one of the steps with the deed that are let now."""
        self._now[0] = after_doing(self.gate, self._now[0], deed, choice)

    def undo(self):
        """Take back the last action."""
        held = self._now[0]
        if held.at == 0:
            raise NothingToUndo()
        self._now[0] = moved_to(held, held.at - 1)

    def again(self):
        """Do the last action that was taken back once more."""
        held = self._now[0]
        if held.at == len(held.places) - 1:
            raise NothingToRedo()
        self._now[0] = moved_to(held, held.at + 1)

    def mark(self, name):
        """Remember the number of actions that are done now."""
        held = self._now[0]
        others = [pair for pair in held.marks if pair[0] != name]
        self._now[0] = Held(held.places, held.at, (*others, (name, held.at)), held.parts)

    def back_to(self, name):
        """Take back all actions that were done after the mark was set."""
        held = self._now[0]
        places = [at for known, at in held.marks if known == name]
        if places == []:
            raise UnknownMark(name)
        self._now[0] = moved_to(held, places[0])

    def attempt(self, *actions):
        """Do the actions, all or none, and return the standing."""
        self._now[0] = after_actions(self.gate, self._now[0], actions)
        return self.standing

    def peek(self, *actions):
        """The standing to which the actions would lead."""
        held = after_actions(self.gate, self._now[0], actions)
        return held.places[held.at][1]

    def trial(self):
        """A block of it leaves the bench as it was."""
        return Trial(self)

    def lets(self):
        """The deeds that are let now."""
        steps = steps_let(self.gate, self.standing)
        return tuple(sorted(set([self.gate.steps[step][1] for step in steps])))

    def room_now(self):
        """The room at the standing."""
        return room(self.gate, self.standing)

    def small_rest(self):
        """Some rest to the next spot, or None if the stay does not hold there."""
        after = spot_rest(self.gate, spot_of(self.gate, self.standing))
        return None if after is None else rest_to(self.standing[1], after[1], self.gate.ceilings)

    def can_meet(self, goal):
        """Is the goal met now, or can it be met by further rests and deeds?"""
        gate, ceilings = self.gate, goal_ceilings(self.gate, goal)
        now, readings = self.standing
        # What can be met from readings depends only on their kind.
        table = kind_table(kind_of(readings, ceilings), ceilings)
        for state, zone, _ in zones_from(gate, ceilings, (), now, table):
            if is_goal_in(gate, goal, state, zone):
                return True
        return False

    def advice(self, plan):
        """The move that the plan has for the spot of the standing, or None."""
        here = spot_of(self.gate, self.standing)
        for spot, _, move in plan:
            if spot == here:
                return move
        return None


def steps_done(held):
    """The moments of the steps that are done, with the steps."""
    return [(moment, move) for moment, _, move in held.places[:held.at + 1] if move != "rest"]


def with_place(held, moment, standing, move):
    """After one more action; nothing is left to do again."""
    places = held.places[:held.at + 1]
    return Held((*places, (moment, standing, move)), held.at + 1, held.marks, held.parts)


def moved_to(held, at):
    """After actions were taken back or done again; marks of more actions than are done get lost."""
    return Held(held.places, at, tuple([pair for pair in held.marks if pair[1] <= at]), held.parts)


def after_resting(gate, held, rest):
    """After the rest."""
    moment, standing, _ = held.places[held.at]
    numerator, denominator = rest
    if held.parts != 0 and numerator * held.parts % denominator != 0:
        raise OffGrain(rest)
    return with_place(held, added(moment, rest), rested(gate, standing, rest), "rest")


def after_doing(gate, held, deed, choice):
    """After the step with the deed that the choice takes among those that are let."""
    check_deed(gate, deed)
    moment, standing, _ = held.places[held.at]
    steps = [step for step in steps_let(gate, standing) if gate.steps[step][1] == deed]
    if not 0 <= choice < len(steps):
        raise NotLet(choice)
    return with_place(held, moment, after_step(gate, standing, steps[choice]), steps[choice])


def after_actions(gate, held, actions):
    """After the actions in order."""
    now = held
    for action in actions:
        if action[0] == "rest":
            now = after_resting(gate, now, action[1])
        else:
            now = after_doing(gate, now, action[1], action[2] if len(action) > 2 else 0)
    return now


class Saved:
    """What a bench held when a block of a trial was entered, and what was saved before by the same trial."""

    def __init__(self, held, outer):
        self.held = held
        self.outer = outer


class Trial:
    """Leaves the bench after a block as it was when the block was entered."""

    def __init__(self, bench):
        self._bench = bench
        self._now = bench._now
        self._saved = None

    def __enter__(self):
        self._saved = Saved(self._now[0], self._saved)
        return self._bench

    def __exit__(self, kind, value, trace):
        saved = self._saved
        self._saved = saved.outer
        self._now.clear()
        self._now.append(saved.held)


def tried(bench, work):
    """What the function returns for the bench, which is afterwards as it was."""
    with bench.trial() as same:
        return work(same)
