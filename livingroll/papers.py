"""Plans of calls without losses, and what must have been lost if the news spread as it was seen."""

from livingroll.errors import InvalidPlan
from livingroll.spread import Tries


def least_rounds(count):
    """Return the least number of rounds in which so many seats can be told."""
    return (count - 1).bit_length()


def least_letters(count):
    """Return the least number of letters by which so many seats can be told."""
    return count - 1


def tree_plan(seats):
    """Return a call plan that tells all seats what the first one knows, with both least numbers."""
    plan = []
    known = 1
    while known < len(seats):
        told = seats[known:2 * known]
        plan.append(list(zip(seats, told)))
        known += len(told)
    return plan


def judge_plan(seats, origin, plan):
    """Return (number of rounds, number of pairs) of a call plan that tells all; raise InvalidPlan if it does not."""
    members = {seat: True for seat in seats}
    known = {origin: True}
    for index, pairs in enumerate(plan):
        if not is_round(pairs, known, members):
            raise InvalidPlan(index)
        for _, called in pairs:
            known[called] = True
    if len(known) < len(members):
        raise InvalidPlan(len(plan))
    return (len(plan), sum([len(pairs) for pairs in plan]))


def is_round(pairs, known, members):
    """Tell whether the pairs can be the calls of a round, if the seats of known know the news when it begins."""
    callers = {}
    for caller, called in pairs:
        if caller not in known or caller in callers:
            return False
        if called not in members or called == caller:
            return False
        callers[caller] = True
    return True


def explain_paper(setting, held, origin, start, seen, count):
    """Return (rows, outside): the tries that were lost, and the seats that were told from outside, as it was seen."""
    tries = Tries(setting, held, start, None)
    moments = dict(seen)
    moments[origin] = 0
    rows = []
    outside = []
    for index in range(count):
        calls = [pair for pair in tries.pairs(index) if knows(moments, pair[0], index)]
        rows.append([caller for caller, called in calls if not knows(moments, called, index + 1)])
        reached = {called: True for _, called in calls}
        new = [seat for seat in sorted(seen) if seen[seat] == index + 1]
        outside = outside + [(index + 1, seat) for seat in new if seat not in reached]
    return (rows, outside)


def knows(moments, seat, rounds):
    """Tell whether a seat knows the news when so many rounds are done."""
    return seat in moments and moments[seat] <= rounds
