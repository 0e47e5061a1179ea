"""The plan of quick calls: whom each seat calls at which beat."""

from livingroll.setting import distance, first_from


def phase_of(setting, beat):
    """Return the phase of a beat; phases fall from block to block of patience beats."""
    return setting.bits - 1 - (beat // setting.patience) % setting.bits


def target(setting, seat, beat, held):
    """Return the seat of held that a seat calls at a beat, or None."""
    return phase_target(setting, seat, phase_of(setting, beat), held)


def phase_target(setting, seat, phase, held):
    """Return the nearest seat of held that is at least the offset of a phase away, or None."""
    offset = 1 << phase
    found = first_from(setting, seat + offset, held)
    # From there on the nearer seats, and the seat itself, are met last.
    if found is None or distance(setting, seat, found) < offset:
        return None
    return found


def fingers(setting, seat, held):
    """Return the targets of a seat in all phases, from the top one down."""
    return [phase_target(setting, seat, phase, held) for phase in reversed(range(setting.bits))]


def phase_tables(setting, held):
    """Return for each phase, from 0 up, a dict from each seat of held that has a target to it."""
    met = first_met(setting, held)
    return [table_of(setting, phase, held, met) for phase in range(setting.bits)]


def table_of(setting, phase, held, met):
    """Return a dict from each seat of held that has a target in a phase to it."""
    offset = 1 << phase
    table = {}
    for seat in held:
        found = met[(seat + offset) % setting.seats]
        if distance(setting, seat, found) >= offset:
            table[seat] = found
    return table


def first_met(setting, held):
    """Return for each place of the ring the seat of held that is met first from it on."""
    here = {seat: True for seat in held}
    met = [None] * setting.seats
    found = None
    places = list(reversed(range(setting.seats)))
    # Behind the last seat of held comes the first one, which the first way around has not met yet.
    for place in places + places:
        found = place if place in here else found
        met[place] = found
    return met


def plan_rounds(setting, held, start, count):
    """Yield for each beat the pairs (seat, target) of the seats of held that have a target."""
    seats = sorted(held)
    for beat in range(start, start + count):
        pairs = [(seat, target(setting, seat, beat, seats)) for seat in seats]
        yield [pair for pair in pairs if pair[1] is not None]
