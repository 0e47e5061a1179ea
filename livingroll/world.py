"""A world: groups of members, the net between them, and all that is done to them."""

from livingroll.calls import quick_call, slow_call
from livingroll.errors import DeedRefused, UnknownSeat
from livingroll.losses import Losses
from livingroll.member import Member
from livingroll.net import Net
from livingroll.sayings import is_worth
from livingroll.words import is_below


class World:
    """The members of some groups. It changes by ticks and deeds alone."""

    def __init__(self, setting, *groups, drift=1, wire=False):
        self.setting = setting
        self.drift = drift
        self._net = Net(setting, wire)
        # All members that were made for each seat, in order.
        self._made = {}
        self._history = []
        # For each tick the pairs of a try and whether the called seat was up.
        self._ticks = []
        for group in groups:
            for seat in group:
                self._place(Member.founder(setting, seat, group))

    @property
    def clock(self):
        """The number of ticks done."""
        return len(self._ticks)

    def tick(self, losses=None, *, asleep=()):
        """Let each member that is awake do its calls and end its round."""
        asked = Losses() if losses is None else losses
        sleepers = [seat for seat in self.used() if seat in asleep]
        awake = [self._net.members[seat] for seat in self.up() if seat not in sleepers]
        tries = []
        for member in awake:
            tries.extend(self._calls_of(member, asked))
        for member in awake:
            member.end_round()
        for seat in self.up():
            if self._net.members[seat].gone:
                self._net.states[seat] = "gone"
        self._ticks.append(tries)
        self._history.append(("tick", tuple(sleepers)))

    def _calls_of(self, member, losses):
        """Do the two calls of a member; return for each one the try and whether the called seat was up."""
        quick = quick_call(self._net, member, losses)
        slow = slow_call(self._net, member, losses)
        rows = []
        for kind, call in (("quick", quick), ("slow", slow)):
            if call is not None:
                called, passed = call
                rows.append(((self.clock, member.seat, called, kind, passed), self._net.is_up(called)))
        return rows

    def admit(self, seat, sponsor):
        """Let a seat join that was never used."""
        deed = ("join", seat, sponsor)
        if not self._is_on_ring(seat) or self._is_used(seat) or not self._is_used(sponsor):
            raise DeedRefused(deed)
        self._place(Member.joiner(self.setting, seat, sponsor))
        self._history.append(deed)

    def leave(self, seat):
        """Let a living member begin to leave."""
        deed = ("leave", seat)
        if not self._is_living(seat):
            raise DeedRefused(deed)
        self._net.members[seat].leave()
        self._history.append(deed)

    def put(self, seat, worth):
        """Let a living member show another text."""
        deed = ("put", seat, worth)
        if not self._is_living(seat) or not is_worth(worth):
            raise DeedRefused(deed)
        self._net.members[seat].put(worth)
        self._history.append(deed)

    def crash(self, seat, *, keep=0):
        """Let a member crash; so many characters of what its disk had still to write are kept."""
        deed = ("crash", seat, keep)
        if not self._net.is_up(seat) or keep < 0:
            raise DeedRefused(deed)
        member = self._net.members[seat]
        member.disk.crash(keep)
        self._net.states[seat] = "gone" if member.leaving else "down"
        self._history.append(deed)

    def revive(self, seat):
        """Let a member that crashed come back with what its disk kept."""
        deed = ("revive", seat)
        if self._net.states.get(seat) != "down":
            raise DeedRefused(deed)
        self._place(Member.returned(self.setting, seat, self.areas_of(seat)))
        self._history.append(deed)

    def sever(self, one, other):
        """Cut the link from one seat to another."""
        deed = ("cut", one, other)
        self._check_link(one, other, deed)
        self._net.close_link(one, other)
        self._history.append(deed)

    def mend(self, one, other):
        """Undo the cut of the link from one seat to another."""
        deed = ("mend", one, other)
        self._check_link(one, other, deed)
        self._net.open_link(one, other)
        self._history.append(deed)

    def divide(self, *groups):
        """Cut all links between seats of different groups."""
        deed = ("split", tuple([tuple(group) for group in groups]))
        seats = [seat for group in groups for seat in group]
        if len(groups) < 2 or 0 in [len(group) for group in groups] or len(set(seats)) < len(seats):
            raise DeedRefused(deed)
        if not all([self._is_on_ring(seat) for seat in seats]):
            raise DeedRefused(deed)
        for group in groups:
            others = [seat for seat in seats if seat not in group]
            for one in group:
                for other in others:
                    self._net.close_link(one, other)
        self._history.append(deed)

    def heal(self):
        """Undo all cuts."""
        self._net.open_all()
        self._history.append(("heal",))

    def stray(self, index):
        """Let a recorded letter arrive once more; return True if its receiver was up."""
        deed = ("stray", index)
        if not 0 <= index < self.letters():
            raise DeedRefused(deed)
        letter = self._net.recorded(index)
        heard = self._net.is_up(letter.receiver)
        if heard:
            self._net.members[letter.receiver].hear(letter)
        self._history.append(deed)
        return heard

    def introduce(self, seat, other):
        """Let a living member know of another used seat."""
        deed = ("introduce", seat, other)
        if not self._is_living(seat) or not self._is_used(other) or seat == other:
            raise DeedRefused(deed)
        self._net.members[seat].learn((other, 0, "alive", ""), seat)
        self._history.append(deed)

    def history(self):
        """Return the list of the deeds done."""
        return list(self._history)

    def living(self):
        """Return the ascending list of the seats that are up and not leaving."""
        return [seat for seat in self.up() if not self._net.members[seat].leaving]

    def up(self):
        """Return the ascending list of the seats that are up."""
        return [seat for seat in self.used() if self._net.is_up(seat)]

    def used(self):
        """Return the ascending list of the seats that were ever founders or joined."""
        return sorted(self._net.members)

    def state_of(self, seat):
        """Return the state of a used seat: "up", "leaving", "down" or "gone"."""
        if not self._is_used(seat):
            raise UnknownSeat(seat)
        state = self._net.states[seat]
        return "leaving" if state == "up" and not self._is_living(seat) else state

    def book_of(self, seat):
        """Return a copy of the book of a member that is up."""
        return self._member_up(seat).book.copy()

    def roll_of(self, seat):
        """Return the pairs (seat, text) of the seats that a member holds to be alive."""
        return [(row[0], row[3]) for row in self.book_of(seat).rows() if row[2] == "alive"]

    def life_of(self, seat):
        """Return the life of a member that is up."""
        return self._member_up(seat).life

    def beat_of(self, seat):
        """Return the beat of a member that is up."""
        return self._member_up(seat).beat

    def worth_of(self, seat):
        """Return the text that a member shows that is up."""
        return self._member_up(seat).worth

    def areas_of(self, seat):
        """Return the durable areas of the disk of a used seat."""
        if not self._is_used(seat):
            raise UnknownSeat(seat)
        return self._net.members[seat].disk.areas()

    def is_cut(self, one, other):
        """Tell whether the link from one seat to another is cut."""
        return not self._net.is_open(one, other)

    def letters(self):
        """Return the number of recorded letters."""
        return self._net.sent()

    def letter(self, index):
        """Return the written form of a recorded letter."""
        if not 0 <= index < self.letters():
            raise DeedRefused(("letter", index))
        return self._net.written(index)

    def tries(self, since=0):
        """Return (clock, caller, called, kind, passed) of each quick and slow call from a clock on."""
        return [row for rows in self._ticks[max(0, since):] for row, _ in rows]

    def tries_to_up(self, since):
        """Return those of the tries from a clock on that were made while the called seat was up."""
        return [row for rows in self._ticks[max(0, since):] for row, was_up in rows if was_up]

    def journals(self):
        """Return for each used seat the runs of all members that were made for it."""
        return {seat: [list(run) for member in self._made[seat] for run in member.journal] for seat in self.used()}

    def _place(self, member):
        """Let a new member be up, and keep it for the journals."""
        self._net.place(member)
        self._made.setdefault(member.seat, []).append(member)

    def _is_on_ring(self, seat):
        """Tell whether a seat is one of the ring."""
        return is_below(seat, self.setting.seats)

    def _is_used(self, seat):
        """Tell whether a seat was ever a founder or joined."""
        return seat in self._net.members

    def _is_living(self, seat):
        """Tell whether a seat is up and not leaving."""
        return self._net.is_up(seat) and not self._net.members[seat].leaving

    def _check_link(self, one, other, deed):
        """Raise DeedRefused if there is no link from one seat to another."""
        if one == other or not (self._is_on_ring(one) and self._is_on_ring(other)):
            raise DeedRefused(deed)

    def _member_up(self, seat):
        """Return the member of a seat; raise UnknownSeat if it is not up."""
        if not self._net.is_up(seat):
            raise UnknownSeat(seat)
        return self._net.members[seat]
