"""Point 39: lives in runs of two and three members whose letters are carried by hand."""

import random

from livingroll.errors import DeedRefused, NoBook
from livingroll.exchange import Side
from livingroll.letters import Sums
from livingroll.member import Member
from livingroll.mending import restore
from livingroll.setting import Setting
from livingroll.wire import format_letter, parse_letter
from tests.helpers import Case


class Net:
    """Members of some seats, all letters that they sent, and what was true of the lives so far."""

    def __init__(self, case, setting, seats):
        self.case = case
        self.setting = setting
        self.members = {seat: Member.founder(setting, seat, seats) for seat in seats}
        self.down = {}
        self.letters = []
        self.carried = {}
        self.worths = {}
        self.own = {seat: 1 for seat in seats}

    def send(self, letter):
        """Record a letter that goes out, and look at the lives in it."""
        member = self.members[letter.sender]
        self.case.assertLessEqual(letter.size, self.setting.room + 2)
        text = format_letter(letter)
        self.case.assertEqual(letter.parts(), parse_letter(self.setting, text).parts())
        self.case.assertEqual(member.book.of(member.seat), letter.sayings[0])
        kept = restore(self.setting, member.disk.areas())[0]
        self.case.assertEqual(member.life, kept.of(member.seat)[1])
        self.look(letter.sayings)
        for seat, life, _, _ in letter.sayings:
            self.carried[seat] = max(life, self.carried.get(seat, 0))
        self.letters.append(letter)
        return letter

    def look(self, sayings):
        """Sayings about one seat with equal life have equal worth, and no life is above the last own one."""
        for seat, life, _, worth in sayings:
            self.own[seat] = max(self.own[seat], self.members[seat].life if seat in self.members else 0)
            self.case.assertLessEqual(life, self.own[seat])
            if life > 0:
                self.case.assertEqual(worth, self.worths.setdefault((seat, life), worth))

    def look_at_all(self):
        for seat, member in self.members.items():
            self.case.assertGreaterEqual(member.life, self.own[seat])
        for member in self.members.values():
            self.look(member.book.rows())
            self.case.assertEqual([(row[0], row[1], row[2]) for row in member.book.rows()], last_entries(member.journal[-1]))

    def quick(self, seat, lost):
        call = self.members[seat].quick()
        if call is None:
            return
        ask = self.send(call[1])
        if lost == 0 or call[0] not in self.members:
            self.fail(seat, call[0], "quick")
            return
        answer = self.send(self.members[call[0]].answer(ask))
        if lost == 1:
            self.fail(seat, call[0], "quick")
            return
        self.members[seat].hear(answer)
        self.members[seat].misses.heard(call[0])

    def fail(self, seat, called, kind):
        if self.members[seat].misses.miss(called, kind):
            self.members[seat].suspect(called)

    def slow(self, seat, lost):
        """A slow call; each letter of it is learned by the receiver."""
        caller = self.members[seat]
        called = caller.slow()
        if called is None:
            return
        if called not in self.members:
            caller.tour.report(False)
            self.fail(seat, called, "slow")
            return
        pair = (caller, self.members[called])
        sides = [side_of(self.setting, one, other.seat) for one, other in (pair, pair[::-1])]
        sides[0].begin(caller.stripe(called))
        number, position = caller.calls, 0
        while True:
            for at in (0, 1):
                sayings, sums = sides[at].next_items()
                sender, receiver = pair[at], pair[1 - at]
                said = sender.greetings(receiver.seat) + sayings
                self.send(Sums(sender.seat, receiver.seat, sender.beat, number, said, sums, position, not sides[at].idle))
                if position == lost:
                    caller.tour.report(False)
                    return
                position += 1
                sides[1 - at].receive(said, sums)
            if sides[0].idle and sides[1].idle:
                caller.tour.report(True)
                return

    def crash(self, seat, keep):
        member = self.members.pop(seat)
        self.own[seat] = max(self.own[seat], member.life)
        member.disk.crash(keep)
        self.down[seat] = member.disk.areas()

    def revive(self, seat):
        member = Member.returned(self.setting, seat, self.down.pop(seat))
        self.members[seat] = member
        self.case.assertGreater(member.life, self.carried.get(seat, 0))
        self.case.assertGreater(member.life, self.own[seat])


def side_of(setting, member, source):
    return Side(setting, member.book, lambda saying: member.learn(saying, source))


def last_entries(run):
    last = {}
    for seat, life, mark, _ in run:
        last[seat] = (seat, life, mark)
    return [last[seat] for seat in sorted(last)]


class Runs(Case):
    def drawn_deed(self, draw, net):
        """Do one drawn thing."""
        seat = draw.choice(sorted(net.members))
        member = net.members[seat]
        word = draw.choice(("quick", "quick", "slow", "round", "put", "crash", "revive", "stray", "suspect"))
        if draw.random() < 0.01:
            word = "leave"
        life = member.life
        if word == "quick":
            net.quick(seat, draw.choice((0, 1, None)))
        elif word == "slow":
            net.slow(seat, draw.choice((0, 1, 3, None, None)))
        elif word == "round":
            member.end_round()
        elif word == "leave" and not member.leaving:
            member.leave()
            self.assertEqual([life, True], [member.life, member.leaving])
        elif word == "put" and not member.leaving:
            member.put(draw.choice(("", "a", "b7", "long0worth99")))
            self.assertGreater(member.life, life)
        elif word == "crash" and len(net.members) > 1 and not member.leaving:
            net.crash(seat, draw.choice((0, 1, 30, 10 ** 6)))
        elif word == "revive" and net.down:
            net.revive(draw.choice(sorted(net.down)))
        elif word == "stray" and net.letters:
            letter = draw.choice(net.letters)
            if letter.receiver in net.members:
                net.members[letter.receiver].hear(letter)
        elif word == "suspect":
            member.suspect(draw.choice(sorted(net.members)))

    def test_drawn_runs(self):
        draw = random.Random(39)
        for seats in ([1, 4], [0, 3], [2, 3, 7], [1, 4, 6]):
            for _ in range(12):
                net = Net(self, Setting(3, draw.randrange(1, 4), draw.randrange(1, 5), grace=draw.randrange(1, 4)), seats)
                for _ in range(120):
                    self.drawn_deed(draw, net)
                    net.look_at_all()
                self.assertGreater(len(net.letters), 5)


class ByHand(Case):
    SETTING = Setting(3, 1, 4, grace=2)

    def test_a_suspicion_is_answered(self):
        net = Net(self, self.SETTING, [1, 4])
        net.members[1].suspect(4)
        self.assertEqual((4, 1, "suspect", ""), net.members[1].book.of(4))
        net.slow(1, None)
        self.assertEqual((4, 2, "alive", ""), net.members[1].book.of(4))
        self.assertEqual((4, 2, "alive", ""), net.members[4].book.of(4))
        self.assertIsNone(net.members[1].doubts.since(4))
        self.assertEqual([(4, 1, "alive", None), (4, 1, "suspect", 1), (4, 2, "alive", 4)],
                         [entry for entry in net.members[1].journal[0] if entry[0] == 4])
        self.assertEqual([(4, 1, "alive", None), (4, 1, "suspect", 1), (4, 2, "alive", 4)],
                         [entry for entry in net.members[4].journal[0] if entry[0] == 4])

    def test_a_crash_is_noticed_and_a_return_is_told(self):
        net = Net(self, self.SETTING, [1, 4, 6])
        net.members[6].put("w")
        net.quick(6, None)
        net.crash(6, 0)
        for _ in range(6):
            for seat in (1, 4):
                net.slow(seat, None)
                net.members[seat].end_round()
        self.assertEqual([(6, 2, "dead", "w")] * 2, [net.members[seat].book.of(6) for seat in (1, 4)])
        net.revive(6)
        self.assertEqual([True, 3, "w"], [net.members[6].newcomer, net.members[6].life, net.members[6].worth])
        for _ in range(3):
            for seat in (1, 4, 6):
                net.slow(seat, None)
        told = net.members[6].book
        self.assertEqual((6, 3, "alive", "w"), told.of(6))
        for seat in (1, 4):
            self.assertEqual(told.rows(), net.members[seat].book.rows())

    def test_a_saying_that_the_disk_lost_is_answered_when_it_comes_back(self):
        net = Net(self, self.SETTING, [1, 4])
        net.members[4].put("a")
        net.quick(4, 1)
        self.assertEqual((4, 2, "alive", "a"), net.members[1].book.of(4))
        net.members[1].suspect(4)
        net.crash(4, 0)
        net.revive(4)
        self.assertEqual((4, 3, "alive", "a"), net.members[4].book.of(4))
        # An old letter changes nothing.
        before = net.members[1].book.rows()
        net.members[1].hear(net.letters[0])
        self.assertEqual(before, net.members[1].book.rows())
        net.slow(1, None)
        self.assertEqual((4, 3, "alive", "a"), net.members[1].book.of(4))

    def test_a_joiner_meets_its_sponsor(self):
        net = Net(self, self.SETTING, [1, 4])
        net.members[6] = Member.joiner(self.SETTING, 6, 4)
        net.own[6] = 1
        net.slow(6, None)
        self.assertEqual(net.members[4].book.rows(), net.members[6].book.rows())
        self.assertEqual([1, 4, 6], net.members[6].book.marked("alive"))
        self.assertEqual([(6, 1, "alive", 6)], [entry for entry in net.members[4].journal[0] if entry[0] == 6])
        net.quick(4, None)
        self.assertEqual([1, 4, 6], net.members[1].book.marked("alive"))

    def test_a_member_that_left_does_not_return(self):
        net = Net(self, self.SETTING, [1, 4])
        net.members[4].leave()
        net.slow(4, None)
        self.assertEqual((4, 1, "left", ""), net.members[1].book.of(4))
        self.assertIsNone(net.members[1].slow())
        areas = net.members[4].disk.areas()
        self.assert_refused(DeedRefused, ("returned", 4), Member.returned, self.SETTING, 4, areas)
        with self.assertRaises(NoBook):
            Member.returned(self.SETTING, 4, ("", areas[0][:-1].replace("area 0", "area 1")))
