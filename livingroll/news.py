"""News: the sayings that a member still hands on."""


class News:
    """The hot sayings, at most one about each seat, and how often each was told."""

    def __init__(self, setting):
        self.setting = setting
        self._hot = {}

    def note(self, saying):
        """Make a saying hot, in the place of one about the same seat."""
        self._hot[saying[0]] = (saying, 0)

    def pick(self):
        """Return the hot sayings that the next letter carries, those told least first."""
        # Sorting keeps the order by seat of those that were told equally often.
        rows = sorted(self.rows(), key=lambda row: row[1])
        return [saying for saying, _ in rows[:self.setting.room]]

    def told(self, sayings):
        """Count one telling for each hot saying of the list."""
        for saying, tellings in self.rows():
            if saying in sayings:
                self._count(saying, tellings + 1)

    def _count(self, saying, tellings):
        """Keep a hot saying with its tellings, or drop it if it was told often enough."""
        if tellings >= self.setting.cycle:
            del self._hot[saying[0]]
        else:
            self._hot[saying[0]] = (saying, tellings)

    def rows(self):
        """Return the pairs (saying, tellings), ascending by seat."""
        return [self._hot[seat] for seat in sorted(self._hot)]

    def hot(self, seat):
        """Tell whether a saying about a seat is hot."""
        return seat in self._hot

    @property
    def quiet(self):
        """True if nothing is hot."""
        return not self._hot

    def __len__(self):
        return len(self._hot)
