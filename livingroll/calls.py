"""The calls of the members of a world, letter by letter."""

from livingroll.exchange import Side
from livingroll.letters import Sums
from livingroll.probing import helpers_for


def quick_call(net, caller, losses):
    """Do the quick call of a member; return (called, passed), or None if there is nobody to call."""
    call = caller.quick()
    if call is None:
        return None
    called, ask = call
    passed = is_answered(net, caller, ask, losses(caller.seat, called, "quick"))
    end_call(net, caller, called, "quick", passed, losses)
    return (called, passed)


def is_answered(net, caller, ask, lost):
    """Send an Ask, and hear the Answer if both letters arrive; tell whether they did."""
    asked = net.carry(ask, lost == 0)
    if asked is None:
        return False
    answer = net.carry(net.members[ask.receiver].answer(asked), lost == 1)
    if answer is None:
        return False
    caller.hear(answer)
    return True


def slow_call(net, caller, losses):
    """Do the slow call of a member; return (called, passed), or None if there is nobody to call."""
    called = caller.slow()
    if called is None:
        return None
    answered, passed = talk(net, caller, called, losses(caller.seat, called, "slow"))
    caller.tour.report(passed)
    if passed:
        caller.welcomed()
    end_call(net, caller, called, "slow", answered, losses)
    return (called, passed)


class Speaker:
    """A member in a slow call, with its side of the talk."""

    def __init__(self, member, other):
        self.member = member
        self.other = other
        self.side = side_of(member, other)

    def next_letter(self, number, position):
        """Return the letter with the next items, behind the greetings."""
        member = self.member
        sayings, sums = self.side.next_items()
        told = member.greetings(self.other) + sayings
        return Sums(member.seat, self.other, member.beat, number, told, sums, position, not self.side.idle)

    def listen(self, letter):
        """Treat a letter that arrived."""
        self.member.catch_up(letter)
        self.side.receive(letter.sayings, letter.sums)


def side_of(member, source):
    """Return a side over the book of a member, which learns what it takes."""
    return Side(member.setting, member.book, lambda saying: member.learn(saying, source))


def talk(net, caller, called, lost):
    """Send the letters of a slow call to and fro; return (answered, passed)."""
    number = caller.calls
    # A member that is down gets no letter, so its side stays as it is.
    speakers = [Speaker(caller, called), Speaker(net.members[called], caller.seat)]
    speakers[0].side.begin(caller.stripe(called))
    position = 0
    ended = False
    while not ended:
        turn = position % 2
        letter = net.carry(speakers[turn].next_letter(number, position), position == lost)
        if letter is None:
            return (position > 1, False)
        speakers[1 - turn].listen(letter)
        ended = turn == 1 and speakers[0].side.idle and speakers[1].side.idle
        position += 1
    return (True, True)


def end_call(net, caller, called, kind, answered, losses):
    """Note whether anything was heard of the called seat, be it by a helper, and suspect it if not for too long."""
    if answered or is_found(net, caller, called, losses):
        caller.misses.heard(called)
    elif caller.misses.miss(called, kind):
        caller.suspect(called)


def is_found(net, caller, about, losses):
    """Ask the helpers one after the other to probe a seat; tell whether one of them told that it reached it."""
    helpers = helpers_for(caller.setting, caller.seat, about, caller.book.marked("alive"))
    for helper in helpers:
        told = answer_of(net, caller, helper, about, losses)
        if told is not None and told.reached:
            return True
    return False


def answer_of(net, caller, helper, about, losses):
    """Send a Probe to a helper; return the Probed that the caller hears, or None."""
    probe = caller.probe(helper, about)
    lost = losses(caller.seat, helper, "probe")
    asked = net.carry(probe, lost is not None)
    if asked is None:
        return None
    told = net.carry(net.members[helper].probed(asked, net.reaches(helper, about)), False)
    if told is not None:
        caller.hear(told)
    return told
