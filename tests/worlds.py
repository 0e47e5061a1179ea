"""What the tests of worlds share: scripted losses, looks at a whole world, a plain world, and drawn histories."""

from livingroll.errors import DeedRefused
from livingroll.exchange import Side
from livingroll.letters import Probe, Probed, Sums
from livingroll.losses import DrawnLosses, FairLosses, Losses
from livingroll.member import Member
from livingroll.plan import target
from livingroll.probing import helpers_for
from livingroll.setting import Setting
from livingroll.wire import format_letter, parse_letter
from livingroll.world import World

WORTHS = ("", "a", "b7", "long0worth99")


class Scripted(Losses):
    """Loses what a dict says: for (caller, called, kind) an index, or a list of answers, one for each call."""

    def __init__(self, lost=None):
        super().__init__()
        self.lost = {key: list(value) if isinstance(value, list) else value for key, value in (lost or {}).items()}
        self.calls = []

    def __call__(self, caller, called, kind):
        self.asked += 1
        self.calls.append((caller, called, kind))
        value = self.lost.get((caller, called, kind))
        if isinstance(value, list):
            return value.pop(0) if value else None
        return value


def letters_of(world, start=0):
    """The recorded letters from an index on."""
    return [parse_letter(world.setting, world.letter(index)) for index in range(start, world.letters())]


def routes(letters):
    """Kind, sender and receiver of each letter."""
    return [(letter.KIND, letter.sender, letter.receiver) for letter in letters]


def look(world):
    """All that point 44 tells of a world, and its clock and history."""
    up = {
        seat: (world.book_of(seat).rows(), world.roll_of(seat), world.life_of(seat), world.beat_of(seat),
               world.worth_of(seat))
        for seat in world.up()
    }
    letters = [world.letter(index) for index in range(world.letters())]
    areas = {seat: world.areas_of(seat) for seat in world.used()}
    return (world.clock, world.living(), world.up(), world.used(), up, areas, letters, world.tries(), world.journals(),
            world.history())


class PlainWorld:
    """The words of points 40 to 43 once more, in one piece and without any care for speed."""

    def __init__(self, setting, *groups):
        self.setting = setting
        self.clock = 0
        self.made = {seat: [Member.founder(setting, seat, group)] for group in groups for seat in group}
        self.state = {seat: "up" for seat in self.made}
        self.cuts = set()
        self.record = []
        self.rows = []
        self.deeds = []

    def member(self, seat):
        return self.made[seat][-1]

    def arrives(self, letter, lost):
        self.record.append(format_letter(letter))
        up = self.state.get(letter.receiver) == "up"
        return up and (letter.sender, letter.receiver) not in self.cuts and not lost

    def tick(self, losses, asleep):
        used = sorted(self.made)
        awake = [seat for seat in used if self.state[seat] == "up" and seat not in asleep]
        for seat in awake:
            self.quick(self.member(seat), losses)
            self.slow(self.member(seat), losses)
        for seat in awake:
            self.member(seat).end_round()
        for seat in used:
            if self.state[seat] == "up" and self.member(seat).gone:
                self.state[seat] = "gone"
        self.clock += 1
        self.deeds.append(("tick", tuple(seat for seat in used if seat in asleep)))

    def quick(self, member, losses):
        called = target(self.setting, member.seat, member.beat, member.book.marked("alive"))
        call = member.quick()
        if called is None:
            return
        lost = losses(member.seat, called, "quick")
        passed = False
        if self.arrives(call[1], lost == 0):
            answer = self.member(called).answer(call[1])
            if self.arrives(answer, lost == 1):
                member.hear(answer)
                passed = True
        self.rows.append((self.clock, member.seat, called, "quick", passed))
        self.after(member, called, "quick", passed, losses)

    def slow(self, member, losses):
        called = member.slow()
        if called is None:
            return
        lost = losses(member.seat, called, "slow")
        arrived, passed = self.talk(member, self.member(called), lost)
        member.tour.report(passed)
        if passed and member.newcomer:
            member.newcomer = False
            member.news.note(member.book.of(member.seat))
        self.rows.append((self.clock, member.seat, called, "slow", passed))
        self.after(member, called, "slow", arrived >= 2, losses)

    def talk(self, caller, called, lost):
        before = [row for row in self.rows if row[1:] == (caller.seat, called.seat, "slow", True)]
        pairs = [(caller, called), (called, caller)]
        sides = [Side(self.setting, one.book, lambda saying, one=one, other=other: one.learn(saying, other.seat))
                 for one, other in pairs]
        since = getattr(caller, "made_at", 0)
        sides[0].begin(len([row for row in before if row[0] >= since]) % self.setting.stripes)
        number = caller.calls
        index = 0
        while True:
            one, other = pairs[index % 2]
            side, far = sides[index % 2], sides[1 - index % 2]
            sayings, sums = side.next_items()
            greetings = [row for row in (one.book.of(one.seat), one.book.of(other.seat)) if row]
            letter = Sums(one.seat, other.seat, one.beat, number, greetings + sayings, sums, index, not side.idle)
            if not self.arrives(letter, index == lost):
                return index, False
            other.beat = max(other.beat, letter.beat)
            far.receive(letter.sayings, letter.sums)
            index += 1
            if index % 2 == 0 and sides[0].idle and sides[1].idle:
                return index, True

    def after(self, member, called, kind, answered, losses):
        if not answered:
            for helper in helpers_for(self.setting, member.seat, called, member.book.marked("alive")):
                if not answered:
                    answered = self.probe(member, helper, called, losses)
        if answered:
            member.misses.heard(called)
        elif member.misses.miss(called, kind):
            member.suspect(called)

    def probe(self, member, helper, about, losses):
        member.calls += 1
        number = member.calls
        lost = losses(member.seat, helper, "probe") is not None
        if not self.arrives(Probe(member.seat, helper, member.beat, number, [], about), lost):
            return False
        self.member(helper).beat = max(self.member(helper).beat, member.beat)
        cut = (helper, about) in self.cuts or (about, helper) in self.cuts
        reached = self.state[about] == "up" and not cut
        if not self.arrives(Probed(helper, member.seat, self.member(helper).beat, number, [], about, reached), False):
            return False
        member.beat = max(member.beat, self.member(helper).beat)
        return reached

    def do(self, deed):
        """Do a deed that is not refused."""
        word, *rest = deed
        if word == "join":
            self.made[rest[0]] = [Member.joiner(self.setting, rest[0], rest[1])]
            self.member(rest[0]).made_at = self.clock
            self.state[rest[0]] = "up"
        elif word == "leave":
            self.member(rest[0]).leave()
        elif word == "put":
            self.member(rest[0]).put(rest[1])
        elif word == "crash":
            self.member(rest[0]).disk.crash(rest[1])
            self.state[rest[0]] = "gone" if self.member(rest[0]).leaving else "down"
        elif word == "revive":
            self.made[rest[0]].append(Member.returned(self.setting, rest[0], self.member(rest[0]).disk.areas()))
            self.member(rest[0]).made_at = self.clock
            self.state[rest[0]] = "up"
        elif word == "cut":
            self.cuts.add((rest[0], rest[1]))
        elif word == "mend":
            self.cuts.discard((rest[0], rest[1]))
        elif word == "split":
            for one in rest[0]:
                for other in rest[0]:
                    if one != other:
                        self.cuts |= {(a, b) for a in one for b in other}
        elif word == "heal":
            self.cuts = set()
        elif word == "stray":
            letter = parse_letter(self.setting, self.record[rest[0]])
            if self.state[letter.receiver] == "up":
                self.member(letter.receiver).hear(letter)
        elif word == "introduce":
            self.member(rest[0]).learn((rest[1], 0, "alive", ""), rest[0])
        self.deeds.append(deed)

    def look(self):
        """The same as look tells of a world."""
        up = [seat for seat in sorted(self.made) if self.state[seat] == "up"]
        told = {}
        for seat in up:
            member = self.member(seat)
            roll = [(row[0], row[3]) for row in member.book.rows() if row[2] == "alive"]
            told[seat] = (member.book.rows(), roll, member.life, member.beat, member.worth)
        living = [seat for seat in up if not self.member(seat).leaving]
        areas = {seat: self.member(seat).disk.areas() for seat in self.made}
        journals = {seat: [run for member in self.made[seat] for run in member.journal] for seat in self.made}
        return (self.clock, living, up, sorted(self.made), told, areas, self.record, self.rows, journals, self.deeds)


def do(world, deed):
    """Do a deed of the history in a world; a tick loses nothing."""
    word, *rest = deed
    if word == "tick":
        return world.tick(asleep=rest[0])
    if word == "crash":
        return world.crash(rest[0], keep=rest[1])
    if word == "split":
        return world.divide(*rest[0])
    names = {"join": "admit", "cut": "sever"}
    return getattr(world, names.get(word, word))(*rest)


def drawn_setting(draw, bits=3):
    return Setting(bits, draw.randrange(1, 4), draw.randrange(1, 6), grace=draw.randrange(1, 7),
                   helpers=draw.randrange(0, 4))


def drawn_groups(draw, setting):
    """One to three groups that leave some seats free."""
    seats = draw.sample(range(setting.seats), draw.randrange(1, setting.seats))
    cuts = sorted(draw.sample(range(1, len(seats)), min(len(seats) - 1, draw.choice((0, 0, 1, 2)))))
    bounds = [0, *cuts, len(seats)]
    return [sorted(seats[low:high]) for low, high in zip(bounds, bounds[1:])]


def drawn_world(draw, bits=3, **named):
    setting = drawn_setting(draw, bits)
    return World(setting, *drawn_groups(draw, setting), **named)


def drawn_losses(draw, setting):
    """An object of one of the three classes, or None."""
    digits = [draw.choice((0, 0, 0, 1, 2, 3, 5)) for _ in range(draw.randrange(0, 30))]
    kinds = (lambda: None, Losses, lambda: DrawnLosses(digits), lambda: FairLosses(digits, setting.patience))
    return draw.choice(kinds)()


def drawn_seat(draw, world, fitting):
    """A seat that fits mostly, and any seat of the ring otherwise."""
    return draw.choice(fitting) if fitting and draw.random() < 0.85 else draw.randrange(world.setting.seats)


def drawn_deed(draw, world):
    """A deed other than a tick, which may be refused."""
    seats = range(world.setting.seats)
    used, living = world.used(), world.living()
    word = draw.choice("join put put put crash crash revive revive cut mend split heal stray stray introduce".split())
    if word == "put" and draw.random() < 0.2:
        word = "leave"
    if word == "put":
        return (word, drawn_seat(draw, world, living), draw.choice(WORTHS))
    if word == "leave":
        return (word, drawn_seat(draw, world, living))
    if word == "crash":
        return (word, drawn_seat(draw, world, world.up()), draw.choice((0, 1, 7, 40, 10 ** 6)))
    if word == "revive":
        return (word, drawn_seat(draw, world, [seat for seat in used if seat not in world.up()]))
    if word == "join":
        return (word, drawn_seat(draw, world, [seat for seat in seats if seat not in used]), drawn_seat(draw, world, used))
    if word == "introduce":
        return (word, drawn_seat(draw, world, living), drawn_seat(draw, world, used))
    if word == "split":
        mixed = draw.sample(seats, draw.randrange(2, len(seats) + 1))
        at = draw.randrange(1, len(mixed))
        return (word, (tuple(mixed[:at]), tuple(mixed[at:])))
    if word == "heal":
        return (word,)
    if word == "stray":
        return (word, draw.randrange(world.letters() + 1))
    return (word, draw.choice(seats), draw.choice(seats))


def drawn_run(draw, world, steps, tick_share=0.6, losses=None):
    """Do drawn ticks and deeds in a world; each deed may be refused."""
    for _ in range(steps):
        if draw.random() < tick_share:
            asleep = draw.sample(range(world.setting.seats), draw.choice((0, 0, 1, 2)))
            world.tick(losses, asleep=asleep)
        else:
            try:
                do(world, drawn_deed(draw, world))
            except DeedRefused:
                pass
