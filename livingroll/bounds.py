"""How many rounds and tellings the quick calls need, and cases that need as many."""

from livingroll.plan import phase_of
from livingroll.spread import Tries


def quick_bound(setting):
    """Return the most rounds that news needs in a fair schedule without shifts."""
    if setting.bits == 1:
        return setting.patience
    if setting.bits == 2:
        return 3 * setting.patience
    return 2 * setting.cycle - 1


def loose_bound(setting):
    """Return the most rounds that news needs in a fair schedule, whatever the shifts."""
    return setting.bits * setting.cycle


def telling_bound(setting):
    """Return the number of tellings of each seat that is enough."""
    return setting.cycle


def worst_case(setting):
    """Return (held, origin, start, lost), a fair schedule that needs as many rounds as quick_bound tells."""
    if setting.bits == 1:
        return ([0, 1], 0, 0, lost_at_first(setting, 0))
    last = setting.seats - 1
    held = [0] + [last - (1 << power) for power in reversed(range(1, setting.bits))] + [last]
    origin = held[1]
    start = setting.patience if setting.bits == 2 else 1
    tries = Tries(setting, held, start, None)
    lost = []
    for index in range(quick_bound(setting)):
        callers = [caller for caller, _ in tries.pairs(index)]
        lost.append([caller for caller in callers if is_lost(setting, caller == origin, start + index)])
    return (held, origin, start, lost)


def is_lost(setting, by_origin, beat):
    """Tell whether the worst case for two bits and more loses a try, by the origin or another seat."""
    if setting.bits > 2 and by_origin and phase_of(setting, beat) == setting.bits - 1:
        # No telling of the origin gets through in the top phase of the first pass: a whole pass goes by.
        return beat < setting.cycle
    return beat % setting.patience != setting.patience - 1


def short_case(setting):
    """Return (held, origin, start, lost), a fair schedule in which one telling less than cycle is too few."""
    last = setting.seats - 1
    held = [0, last] if setting.bits == 1 else [0, setting.seats // 2 - 1, last]
    return (held, last, setting.cycle - setting.patience + 1, lost_at_first(setting, last))


def lost_at_first(setting, origin):
    """Return the rows in which as many tries of the origin are lost as a fair schedule lets."""
    return [[origin] for _ in range(setting.patience - 1)]
