"""Whom a member visits, which tries went without an answer, and the clocks of suspicions."""

from livingroll.setting import arc, first_from

KINDS = ("quick", "slow")


class Tour:
    """Chooses whom the slow calls go to: one seat after the other around the ring, each for a whole visit."""

    def __init__(self, setting, seat, *, behind=None):
        self.setting = setting
        self.current = None
        self.failed = 0
        self._last = seat if behind is None else behind
        self._goes_on = False
        self._passes = {}

    def aim(self, names):
        """Return the seat of names to try now, or None if there is none."""
        if not (self._goes_on and self.current in names):
            self._begin(first_from(self.setting, self._last + 1, names))
        return self.current

    def _begin(self, seat):
        """Begin the visit to a seat; None stands for no visit."""
        self.current = seat
        self.failed = 0
        self._goes_on = seat is not None
        if seat is not None:
            self._last = seat

    def report(self, passed):
        """Take the result of the try that the last aim gave."""
        if not self._goes_on:
            return
        if passed:
            self._passes[self.current] = self.passes(self.current) + 1
        else:
            self.failed += 1
        self._goes_on = not passed and self.failed < self.setting.patience

    def passes(self, seat):
        """Return how many tries to a seat passed since the tour was made."""
        return self._passes.get(seat, 0)


class Misses:
    """Counts the consecutive tries without any answer, for each seat and each kind of call."""

    def __init__(self, setting):
        self.setting = setting
        self._counts = {}

    def miss(self, seat, kind):
        """Count a try without any answer; return True if patience of them stand in a row."""
        many = self.count(seat, kind) + 1
        enough = many >= self.setting.patience
        self._counts[(seat, kind)] = 0 if enough else many
        return enough

    def heard(self, seat):
        """Set both counts of a seat to 0."""
        for kind in KINDS:
            self._counts[(seat, kind)] = 0

    def count(self, seat, kind):
        """Return the number of tries of a kind without any answer that stand in a row."""
        return self._counts.get((seat, kind), 0)


class Doubts:
    """The clocks of suspicions, at most one for each seat."""

    def __init__(self, setting):
        self.setting = setting
        self._clocks = {}

    def doubt(self, seat, life, now):
        """Start the clock of a seat, unless it runs for the same life."""
        if seat not in self._clocks or self._clocks[seat][0] != life:
            self._clocks[seat] = (life, now)

    def lift(self, seat):
        """Stop the clock of a seat."""
        if seat in self._clocks:
            del self._clocks[seat]

    def since(self, seat):
        """Return the round count at which the clock of a seat was started, or None."""
        return self._clocks[seat][1] if seat in self._clocks else None

    def due(self, book, now):
        """Return for each seat that was suspect for grace rounds that it is dead, ascending by seat."""
        rows = [book.of(seat) for seat in sorted(self._clocks)]
        return [(row[0], row[1], "dead", row[3]) for row in rows if row is not None and self._is_due(row, now)]

    def _is_due(self, row, now):
        """Tell whether the clock of a seat runs for what is held about it, and for long enough."""
        life, start = self._clocks[row[0]]
        return row[1] == life and row[2] == "suspect" and now - start >= self.setting.grace


def helpers_for(setting, seat, about, alive):
    """Return the seats of alive that a seat asks to probe another one, those met first behind it."""
    others = [other for other in alive if other not in (seat, about)]
    return arc(setting, about, about, others)[:setting.helpers]
