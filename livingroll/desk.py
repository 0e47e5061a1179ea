"""A desk: a world that is led by lines of text, with undo."""

from livingroll.calm import is_somebody_leaving, linked, names_held, settle_bound, settled
from livingroll.errors import DeedRefused, InvalidSetting, NothingToRedo, NothingToUndo, TooMuch
from livingroll.lines import do_line, read_line
from livingroll.sayings import format_worth
from livingroll.words import is_integer
from livingroll.world import World

FIRST_MOST = 200
GREATEST_MOST = 2000


class State:
    """All that a desk may change: its lines, those that were taken back, and the most lines."""

    def __init__(self, standing, taken_back, limit, outer):
        self.standing = list(standing)
        self.taken_back = list(taken_back)
        self.limit = limit
        # The world behind the lines that stand; None if they have to be done anew to get it.
        self.led = None
        # The state that a trial goes back to when its block ends.
        self.outer = outer


class Trial:
    """A context in which the desk may be tried out; behind it the desk is as it was."""

    def __init__(self, desk):
        self._desk = desk

    def __enter__(self):
        desk = self._desk
        state = desk._state
        desk._state = State(state.standing, state.taken_back, state.limit, state)
        return desk

    def __exit__(self, kind, value, trace):
        desk = self._desk
        desk._state = desk._state.outer


class Desk:
    """Leads a world of one group by lines."""

    def __init__(self, setting, founders):
        self.setting = setting
        self._founders = list(founders)
        self._state = State([], [], FIRST_MOST, None)

    def do(self, line):
        """Do the deed of a line."""
        values = read_line(self.setting, line)
        self._check_room(1)
        do_line(self._led(), values)
        state = self._state
        state.standing.append(line)
        state.taken_back = []

    def undo(self):
        """Take back the last line that stands, and return it."""
        state = self._state
        if not state.standing:
            raise NothingToUndo()
        line = state.standing.pop()
        state.taken_back.append(line)
        state.led = None
        return line

    def redo(self):
        """Do the last line again that was taken back, and return it."""
        state = self._state
        if not state.taken_back:
            raise NothingToRedo()
        do_line(self._led(), read_line(self.setting, state.taken_back[-1]))
        line = state.taken_back.pop()
        state.standing.append(line)
        return line

    def lines(self):
        """Return the lines that stand."""
        return list(self._state.standing)

    @property
    def most(self):
        """The most lines that may stand."""
        return self._state.limit

    @most.setter
    def most(self, value):
        """Set the most lines that may stand."""
        if not (is_integer(value) and 1 <= value <= GREATEST_MOST):
            raise InvalidSetting("most")
        state = self._state
        state.limit = value

    def change(self, name, value):
        """Set a value of the desk by its name."""
        if name != "most":
            raise InvalidSetting(name)
        self.most = value

    def show(self):
        """Return a text of one line for each used seat."""
        world = self._led()
        return "".join([seat_line(world, seat) for seat in world.used()])

    def __str__(self):
        # The number of ticks, and not the clock of the world, which may have to be led there first.
        ticks = [line for line in self._state.standing if line.startswith("tick")]
        return f"{len(self._state.standing)} lines, clock {len(ticks)}"

    def tried(self, lines):
        """Return what the desk would show behind some lines more."""
        with self.trial() as same:
            for line in lines:
                same.do(line)
            shown = same.show()
        return shown

    def trial(self):
        """Return a context in which all may be done to the desk; behind it the desk is as it was."""
        return Trial(self)

    def world(self):
        """Return a world equal to that of the desk, which goes its own way."""
        world = World(self.setting, self._founders)
        for line in self._state.standing:
            do_line(world, read_line(self.setting, line))
        return world

    def settle(self):
        """Do as many ticks as settle a world that can be settled; return whether it is settled then."""
        world = self._led()
        if is_any_cut(world) or is_somebody_leaving(world) or not linked(world):
            raise DeedRefused(("settle",))
        ticks = settle_bound(self.setting, names_held(world), len(world.living()))
        self._check_room(ticks)
        for _ in range(ticks):
            self.do("tick")
        return settled(self._led())

    def _led(self):
        """Return the world behind the lines that stand."""
        state = self._state
        if state.led is None:
            state.led = self.world()
        return state.led

    def _check_room(self, more):
        """Raise TooMuch if more lines would be too many."""
        if len(self._state.standing) + more > self.most:
            raise TooMuch(self.most)


def is_any_cut(world):
    """Tell whether a link between two living members is cut."""
    living = world.living()
    return any([world.is_cut(one, other) for one in living for other in living])


def seat_line(world, seat):
    """Return the line that shows a used seat."""
    state = world.state_of(seat)
    if state == "down" or state == "gone":
        return f"{seat:>3} {state}\n"
    beat = world.beat_of(seat)
    life = world.life_of(seat)
    words = [f"{other}:{format_worth(worth)}" for other, worth in world.roll_of(seat)]
    roll = ",".join(words)
    return f"{seat:>3} {state:<7} {beat:>5} {life:>5} {roll}\n"
