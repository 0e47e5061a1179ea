"""The plain twin: what a world comes to, by its deeds alone."""

from livingroll.errors import DeedRefused


class Twin:
    """Who lives with which text, without net, books or calls."""

    def __init__(self, founders):
        # Each seat that was ever founder or joined is "living", "left" or "crashed", and has a text.
        self._states = {seat: "living" for seat in founders}
        self._worths = {seat: "" for seat in founders}

    def follow(self, deed):
        """Take a deed; those that do not change who lives with which text change nothing."""
        word = deed[0]
        if word == "join":
            self._join(deed)
        elif word == "leave":
            self._check(deed, "living")
            self._states[deed[1]] = "left"
        elif word == "put":
            self._check(deed, "living")
            self._worths[deed[1]] = deed[2]
        elif word == "crash":
            self._crash(deed)
        elif word == "revive":
            self._check(deed, "crashed")
            self._states[deed[1]] = "living"

    def _join(self, deed):
        """Let a new seat live."""
        _, seat, sponsor = deed
        if seat in self._states or sponsor not in self._states:
            raise DeedRefused(deed)
        self._states[seat] = "living"
        self._worths[seat] = ""

    def _crash(self, deed):
        """Let a seat crash; one that left does not change by it."""
        if self._states.get(deed[1]) != "left":
            self._check(deed, "living")
            self._states[deed[1]] = "crashed"

    def _check(self, deed, state):
        """Raise DeedRefused if the seat of a deed is not in a state."""
        if self._states.get(deed[1]) != state:
            raise DeedRefused(deed)

    def living(self):
        """Return the pairs (seat, worth) of the seats that live, ascending."""
        return [(seat, self._worths[seat]) for seat in sorted(self._states) if self._states[seat] == "living"]

    @staticmethod
    def behind(founders, history):
        """Return the twin behind a list of deeds."""
        twin = Twin(founders)
        for deed in history:
            twin.follow(deed)
        return twin
