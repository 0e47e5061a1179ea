"""Members: what one seat of a group holds, says and does."""

from livingroll.book import Book
from livingroll.disk import Disk
from livingroll.errors import DeedRefused
from livingroll.letters import Answer, Ask, Probe, Probed
from livingroll.mending import restore
from livingroll.news import News
from livingroll.plan import target
from livingroll.probing import Doubts, Misses, Tour
from livingroll.sayings import is_worth

FLUSH_ROUNDS = 4


class Member:
    """One seat's part in the group. Its book changes by learn alone."""

    def __init__(self, setting, seat, book, disk, *, behind=None, newcomer=False):
        self.setting = setting
        self.seat = seat
        self.worth = book.of(seat)[3]
        self.beat = 0
        self.rounds = 0
        self.calls = 0
        self.leaving = False
        self.newcomer = newcomer
        self.book = book
        self.news = News(setting)
        self.tour = Tour(setting, seat, behind=behind)
        self.misses = Misses(setting)
        self.doubts = Doubts(setting)
        self.disk = disk
        self.journal = [[(row[0], row[1], row[2], None) for row in book.rows()]]
        self._left_at = None

    @classmethod
    def founder(cls, setting, seat, founders):
        """Return a member of a group that begins with these founders."""
        book = Book(setting, [(other, 1, "alive", "") for other in founders])
        return cls(setting, seat, book, Disk.fresh(setting, book.rows()))

    @classmethod
    def joiner(cls, setting, seat, sponsor):
        """Return a member that knows itself and its sponsor alone."""
        own = (seat, 1, "alive", "")
        book = Book(setting, [own, (sponsor, 0, "alive", "")])
        member = cls(setting, seat, book, Disk.fresh(setting, book.rows()), behind=sponsor - 1, newcomer=True)
        member.news.note(own)
        return member

    @classmethod
    def returned(cls, setting, seat, areas):
        """Return a member that goes on, in a new life, with what the disk of its seat kept."""
        book = restore(setting, areas)[0]
        own = book.of(seat)
        if own is None or own[2] == "left":
            raise DeedRefused(("returned", seat))
        member = cls(setting, seat, book, Disk.reopened(setting, areas), newcomer=True)
        for other in book.marked("suspect"):
            if other != seat:
                member.doubts.doubt(other, book.of(other)[1], 0)
        member.learn((seat, own[1] + 1, "alive", own[3]), seat)
        return member

    @property
    def life(self):
        """The life of the own saying."""
        return self.book.of(self.seat)[1]

    @property
    def gone(self):
        """True if the member is leaving and has told it often enough, or for long enough."""
        if not self.leaving:
            return False
        return not self.news.hot(self.seat) or self.rounds - self._left_at >= 2 * self.setting.cycle

    def learn(self, saying, source):
        """Take a saying that comes from a seat, and do all that follows; return True if it was taken."""
        seat, life, mark, _ = saying
        held = self.book.of(seat)
        if not self.book.take(saying):
            return False
        self.disk.append(saying)
        self.news.note(saying)
        self.journal[0].append((seat, life, mark, source))
        if held is None or life > held[1]:
            self.misses.heard(seat)
        if mark == "suspect":
            self.doubts.doubt(seat, life, self.rounds)
        else:
            self.doubts.lift(seat)
        if seat == self.seat:
            self._keep_own(life, source)
        return True

    def _keep_own(self, life, source):
        """Answer what another seat says about this one, and make the own saying durable."""
        if source != self.seat:
            mark = "left" if self.leaving else "alive"
            self.learn((self.seat, life + 1, mark, self.worth), self.seat)
        self.disk.flush()

    def put(self, worth):
        """Show another text from now on."""
        if self.leaving or not is_worth(worth):
            raise DeedRefused(("put", self.seat))
        self.worth = worth
        self.learn((self.seat, self.life + 1, "alive", worth), self.seat)

    def leave(self):
        """Begin to leave the group."""
        if self.leaving:
            raise DeedRefused(("leave", self.seat))
        self.leaving = True
        self._left_at = self.rounds
        self.learn((self.seat, self.life, "left", self.worth), self.seat)

    def suspect(self, seat):
        """Suspect another seat that is held to be alive."""
        held = self.book.of(seat)
        if seat != self.seat and held is not None and held[2] == "alive":
            self.learn((seat, held[1], "suspect", held[3]), self.seat)

    def greetings(self, receiver):
        """Return the sayings that each letter of a call begins with: what is held about both seats."""
        rows = [self.book.of(self.seat), self.book.of(receiver)]
        return [row for row in rows if row is not None]

    def _with_greetings(self, receiver, picked):
        """Return the greetings and behind them the picked sayings that are none."""
        greetings = self.greetings(receiver)
        return greetings + [saying for saying in picked if saying not in greetings]

    def quick(self):
        """Return (target, Ask) of the quick call of this round, or None if there is nobody to call."""
        called = target(self.setting, self.seat, self.beat, self.book.marked("alive"))
        if called is None:
            return None
        self.calls += 1
        picked = self.news.pick()
        ask = Ask(self.seat, called, self.beat, self.calls, self._with_greetings(called, picked))
        self.news.told(picked)
        return (called, ask)

    def answer(self, ask):
        """Hear an Ask and return the Answer."""
        self.hear(ask)
        sayings = self._with_greetings(ask.sender, self.news.pick())
        return Answer(self.seat, ask.sender, self.beat, ask.number, sayings)

    def hear(self, letter):
        """Learn what a letter says."""
        self.catch_up(letter)
        for saying in letter.sayings:
            self.learn(saying, letter.sender)

    def catch_up(self, letter):
        """Go on with the beat of a letter if it is greater than the own one."""
        self.beat = max(self.beat, letter.beat)

    def probe(self, helper, about):
        """Return the Probe that asks a helper to try a seat."""
        self.calls += 1
        return Probe(self.seat, helper, self.beat, self.calls, [], about)

    def probed(self, probe, reached):
        """Hear a Probe and return the Probed."""
        self.hear(probe)
        return Probed(self.seat, probe.sender, self.beat, probe.number, [], probe.about, reached)

    def slow(self):
        """Return the seat that the slow call of this round goes to, or None."""
        names = [seat for seat in self.book.marked("alive", "suspect", "dead") if seat != self.seat]
        called = self.tour.aim(names)
        if called is not None:
            self.calls += 1
        return called

    def stripe(self, seat):
        """Return the stripe of the next slow call to a seat; each one that passed makes it the next stripe."""
        return self.tour.passes(seat) % self.setting.stripes

    def welcomed(self):
        """A slow call passed: a newcomer is none any longer, and tells its own saying anew."""
        if self.newcomer:
            self.newcomer = False
            self.news.note(self.book.of(self.seat))

    def end_round(self):
        """Do what stands at the end of each own round."""
        self.rounds += 1
        due = self.doubts.due(self.book, self.rounds)
        for saying in due:
            self.learn(saying, self.seat)
        if self.rounds % FLUSH_ROUNDS == 0:
            self.disk.flush()
        if self.disk.log_lines >= Disk.LOG_MOST:
            self.disk.rewrite(self.book.rows())
        self.beat += 1
