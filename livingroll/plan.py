"""The plan of quick calls: whom each seat calls at which beat."""

from livingroll.setting import distance, first_from


def phase_of(setting, beat):
    """Return the phase of a beat; phases fall from block to block of patience beats."""
    return setting.bits - 1 - (beat // setting.patience) % setting.bits


def target(setting, seat, beat, held):
    """Return the seat of held that a seat calls at a beat, or None."""
    return phase_target(setting, seat, phase_of(setting, beat), held)


def phase_target(setting, seat, phase, held):
    """Return the nearest seat of held that is at least the offset of a phase away, or None."""
    offset = 1 << phase
    found = first_from(setting, seat + offset, held)
    # From there on the nearer seats, and the seat itself, are met last.
    if found is None or distance(setting, seat, found) < offset:
        return None
    return found


def fingers(setting, seat, held):
    """Return the targets of a seat in all phases, from the top one down."""
    return [phase_target(setting, seat, phase, held) for phase in reversed(range(setting.bits))]


def plan_rounds(setting, held, start, count):
    """Yield for each beat the pairs (seat, target) of the seats of held that have a target."""
    seats = sorted(held)
    for beat in range(start, start + count):
        pairs = [(seat, target(setting, seat, beat, seats)) for seat in seats]
        yield [pair for pair in pairs if pair[1] is not None]
