"""The net between the members of a world: who can be reached, and each letter that was sent."""

from livingroll.wire import format_letter, parse_letter


class Net:
    """The members and their states, the links that are cut, and the record of all letters."""

    def __init__(self, setting, wire):
        self.setting = setting
        # For each used seat the member that was made for it last, and "up", "down" or "gone".
        self.members = {}
        self.states = {}
        self._cuts = {}
        self._wire = wire
        self._letters = []

    def place(self, member):
        """Let a new member be up."""
        self.members[member.seat] = member
        self.states[member.seat] = "up"

    def is_up(self, seat):
        """Tell whether there is a member of the seat that hears letters."""
        return self.states.get(seat) == "up"

    def close_link(self, one, other):
        """Cut the link from one seat to another."""
        self._cuts[(one, other)] = True

    def open_link(self, one, other):
        """Undo the cut of the link from one seat to another."""
        if not self.is_open(one, other):
            del self._cuts[(one, other)]

    def open_all(self):
        """Undo all cuts."""
        self._cuts = {}

    def is_open(self, one, other):
        """Tell whether the link from one seat to another is not cut."""
        return (one, other) not in self._cuts

    def reaches(self, one, other):
        """Tell whether the other seat is up and no direction of the link between the two is cut."""
        return self.is_up(other) and self.is_open(one, other) and self.is_open(other, one)

    def carry(self, letter, lost):
        """Record a letter; return it as it arrives, or None if it is lost or cannot arrive."""
        self._letters.append(format_letter(letter) if self._wire else letter)
        if lost or not (self.is_up(letter.receiver) and self.is_open(letter.sender, letter.receiver)):
            return None
        return self.recorded(self.sent() - 1)

    def sent(self):
        """Return the number of letters that were sent."""
        return len(self._letters)

    def recorded(self, index):
        """Return a letter of the record, as it arrives."""
        kept = self._letters[index]
        return parse_letter(self.setting, kept) if self._wire else kept

    def written(self, index):
        """Return the written form of a letter of the record."""
        kept = self._letters[index]
        return kept if self._wire else format_letter(kept)
