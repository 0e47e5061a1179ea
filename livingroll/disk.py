"""The disk of a member: what is durable in its two areas, and what is still to be written."""

from livingroll.mending import area_text, mended, read_area, restore, saying_line


class Disk:
    """Two areas, one of them current, and the pending writes in the order of writing."""

    LOG_MOST = 12

    def __init__(self, texts, current, generation, logged):
        self._durable = list(texts)
        self._current = current
        self._generation = generation
        self._logged = logged
        # Each write is (area, text, whether the area is emptied ahead of it).
        self._writes = []

    @classmethod
    def fresh(cls, setting, rows):
        """Return a disk that durably holds the rows as generation 0."""
        return cls([area_text(0, rows), ""], 0, 0, 0)

    @classmethod
    def reopened(cls, setting, areas):
        """Return a disk that goes on with what can be mended of the areas; raise NoBook if nothing can."""
        _, generation, index = restore(setting, areas)
        log = read_area(setting, areas[index])[2]
        return cls(mended(setting, areas), index, generation, len(log))

    def append(self, saying):
        """Write a line to the log of the current area."""
        self._writes.append((self._current, saying_line(saying), False))
        self._logged += 1

    def rewrite(self, rows):
        """Write the next generation to the other area, which is current from now on."""
        self._current = 1 - self._current
        self._generation += 1
        self._logged = 0
        self._writes.append((self._current, area_text(self._generation, rows), True))

    def flush(self):
        """Make all pending writes durable."""
        self._write_out(self.pending)

    def crash(self, keep):
        """Make the first characters of the pending writes durable, so many as are kept, and drop the rest."""
        self._write_out(keep)

    def _write_out(self, many):
        """Make the first characters of the pending writes durable; nothing is pending behind it."""
        left = many
        for area, text, emptied in self._writes:
            kept = text[:left]
            left -= len(kept)
            # A rewrite of which nothing is kept has not emptied its area either.
            if kept != "":
                self._durable[area] = kept if emptied else self._durable[area] + kept
        self._writes = []

    @property
    def pending(self):
        """The number of pending characters."""
        return sum([len(write[1]) for write in self._writes])

    def areas(self):
        """Return the two durable texts."""
        return tuple(self._durable)

    @property
    def log_lines(self):
        """The number of log lines behind the current snapshot, pending ones included."""
        return self._logged
