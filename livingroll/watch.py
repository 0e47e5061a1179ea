"""A watch over books, which tells each lasting change once."""

from livingroll.errors import DeedRefused

# A seat of which nothing was seen is "out".
STATES = {"alive": "in", "suspect": "in", "dead": "dead", "left": "left"}


class Watch:
    """Compares each book with what it saw last about each seat."""

    def __init__(self):
        # For each seat that was seen its state and the worth that it showed.
        self._seen = {}
        self._events = []
        self._paused = False

    @property
    def paused(self):
        """True while the watch is paused."""
        return self._paused

    def see(self, book):
        """Return the list of the new events (seat, kind, life, worth), ascending by seat."""
        if self._paused:
            return []
        events = []
        for seat, life, mark, worth in book.rows():
            before, shown = self._seen.get(seat, ("out", None))
            state = STATES[mark]
            kind = change_kind(before, state, shown == worth)
            self._seen[seat] = (state, worth)
            if kind is not None:
                events.append((seat, kind, life, worth))
        self._events.extend(events)
        return events

    def changes(self, kind=None):
        """Yield all events told so far, or those of one kind."""
        for event in self._events:
            if kind is None or event[1] == kind:
                yield event

    def pause(self):
        """See nothing from now on."""
        if self._paused:
            raise DeedRefused(("pause",))
        self._paused = True

    def resume(self):
        """Go on seeing."""
        if not self._paused:
            raise DeedRefused(("resume",))
        self._paused = False


def change_kind(before, state, same_worth):
    """Return the kind of the change from one state to another, or None if none is told."""
    if state != "in":
        return None if state == before else state
    if before == "out":
        return "joined"
    if before != "in":
        return "back"
    return None if same_worth else "changed"


def replayed(events):
    """Return the pairs (seat, worth) of the seats that are in behind the events, ascending."""
    shown = {}
    for seat, kind, _, worth in events:
        if kind == "dead" or kind == "left":
            shown[seat] = None
        else:
            shown[seat] = worth
    return [(seat, shown[seat]) for seat in sorted(shown) if shown[seat] is not None]
