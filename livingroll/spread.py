"""How a piece of news spreads by quick calls among seats that never change."""

from livingroll.plan import phase_of, phase_tables


class Tries:
    """Whom each seat calls in which round, whether or not it knows the news."""

    def __init__(self, setting, held, start, shifts):
        self.setting = setting
        self._seats = sorted(held)
        self._start = start
        self._shifts = {} if shifts is None else dict(shifts)
        # The seats never change, so each target is looked for once instead of in every round.
        self._tables = phase_tables(setting, self._seats)

    def target_of(self, seat, index):
        """Return the target of a seat in the round with this index, or None."""
        beat = self._start + index + self._shifts.get(seat, 0)
        return self._tables[phase_of(self.setting, beat)].get(seat)

    def pairs(self, index):
        """Return the pairs (seat, target) of one round, ascending by seat."""
        pairs = [(seat, self.target_of(seat, index)) for seat in self._seats]
        return [pair for pair in pairs if pair[1] is not None]


class Spread:
    """One piece of news: who knows it since when, and how often each seat told it."""

    def __init__(self, setting, held, origins, start, *, tellings=None, shifts=None):
        self.rounds = 0
        self._tries = Tries(setting, held, start, shifts)
        self._most = tellings
        self._missing = len(held) - len(origins)
        self._moments = {seat: 0 for seat in origins}
        self._tellings = {seat: 0 for seat in held}

    def step(self, lost=()):
        """Do one round; return the ascending list of the seats that come to know the news in it."""
        calls = self._calls()
        missed = {caller: True for caller in lost}
        heard = {}
        for caller, called in calls:
            self._tellings[caller] += 1
            if caller not in missed and called not in self._moments:
                heard[called] = True
        self.rounds += 1
        self._missing -= len(heard)
        for seat in heard:
            self._moments[seat] = self.rounds
        return sorted(heard)

    def _calls(self):
        """Return the pairs (seat, target) of the tellings of the next round."""
        pairs = [(seat, self._tries.target_of(seat, self.rounds)) for seat in self._moments if self._may_tell(seat)]
        return [pair for pair in pairs if pair[1] is not None]

    def _may_tell(self, seat):
        """Tell whether a seat has a telling left."""
        return self._most is None or self._tellings[seat] < self._most

    def known(self):
        """Return the ascending list of the seats that know the news."""
        return sorted(self._moments)

    def since(self, seat):
        """Return the number of rounds that were done when a seat came to know the news, or None."""
        return self._moments.get(seat)

    @property
    def done(self):
        """True if all seats know the news."""
        return self._missing == 0

    @property
    def stuck(self):
        """True if no seat that knows the news has a telling left."""
        return not any([self._may_tell(seat) for seat in self._moments])


def is_fair(setting, held, start, lost, *, shifts=None):
    """Tell whether no patience consecutive tries over one ordered pair are lost in the rows of lost."""
    tries = Tries(setting, held, start, shifts)
    failed = {}
    for index, callers in enumerate(lost):
        missed = {caller: True for caller in callers}
        for pair in tries.pairs(index):
            failed[pair] = failed.get(pair, 0) + 1 if pair[0] in missed else 0
            if failed[pair] >= setting.patience:
                return False
    return True


def rounds_to_all(setting, held, origins, start, lost, *, tellings=None, shifts=None):
    """Return the number of rounds after which all seats know the news, or None if some seat never does."""
    spread = Spread(setting, held, origins, start, tellings=tellings, shifts=shifts)
    # It ends: of two seats or more each has a target in phase 0, so behind the rows of lost each pass
    # of the plan tells a new seat or uses up tellings.
    while not spread.done:
        if spread.stuck:
            return None
        spread.step(lost[spread.rounds] if spread.rounds < len(lost) else ())
    return spread.rounds
