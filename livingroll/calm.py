"""Fair stretches of ticks, settled worlds, and how many ticks are enough."""

from livingroll.bounds import quick_bound
from livingroll.errors import DeedRefused


def is_fair_since(world, t):
    """Tell whether the ticks from the one that began with the clock t on are a fair stretch."""
    deeds = deeds_since(world, t)
    if any([deed[0] != "tick" for deed in deeds]) or is_somebody_leaving(world):
        return False
    return is_awake_enough(world, [deed[1] for deed in deeds]) and is_heard_enough(world, t)


def deeds_since(world, t):
    """Return the deeds of the history from the tick that began with the clock t on."""
    history = world.history()
    ticks = [index for index, deed in enumerate(history) if deed[0] == "tick"]
    return history[ticks[t]:] if t < len(ticks) else []


def is_somebody_leaving(world):
    """Tell whether a member that is up is leaving."""
    return world.up() != world.living()


def is_awake_enough(world, sleepers):
    """Tell whether no living member slept for drift consecutive ticks; sleepers has a tuple for each tick."""
    slept = {seat: 0 for seat in world.living()}
    for asleep in sleepers:
        slept = {seat: slept[seat] + 1 if seat in asleep else 0 for seat in slept}
        if max(list(slept.values()), default=0) >= world.drift:
            return False
    return True


def is_heard_enough(world, t):
    """Tell whether of no patience consecutive tries to a seat that was up all failed."""
    failed = {}
    for _, caller, called, kind, passed in world.tries_to_up(t):
        call = (caller, called, kind)
        failed[call] = 0 if passed else failed.get(call, 0) + 1
        if failed[call] >= world.setting.patience:
            return False
    return True


def linked(world):
    """Tell whether the living members are connected by what their books hold about one another."""
    living = world.living()
    books = {seat: world.book_of(seat) for seat in living}
    reached = {seat: True for seat in living[:1]}
    fresh = living[:1]
    while fresh:
        left = [seat for seat in living if seat not in reached]
        fresh = [seat for seat in left if is_near_one(books, seat, fresh)]
        for seat in fresh:
            reached[seat] = True
    return len(reached) == len(living)


def is_near_one(books, seat, others):
    """Tell whether a seat holds one of the others or is held by one."""
    return any([other in books[seat] or seat in books[other] for other in others])


def names_held(world):
    """Return the number of seats that living members hold sayings about."""
    held = {}
    for seat in world.living():
        for name in world.book_of(seat).held():
            held[name] = True
    return len(held)


def settle_bound(setting, names, living, *, drift=1):
    """Return the number of ticks of a fair stretch behind which a linked world is settled."""
    # The bits of living - 2 are the least number of doublings from 1 to living - 1.
    doublings = max(0, living - 2).bit_length()
    rows = (max(1, doublings) + 2) * names * setting.patience * drift * setting.stripes
    return rows + setting.grace * drift


def settled(world):
    """Tell whether all living members hold the same right book."""
    if is_somebody_leaving(world):
        return False
    living = world.living()
    books = [world.book_of(seat) for seat in living]
    return all([book == books[0] and is_right(world, living, book) for book in books])


def is_right(world, living, book):
    """Tell whether a book marks exactly the living seats as alive, with their texts, and suspects nobody."""
    if book.marked("alive") != living or book.marked("suspect"):
        return False
    return all([book.of(seat)[3] == world.worth_of(seat) for seat in living])


def change_bound(kind, setting, names):
    """Return the number of ticks behind which all living members hold a single change of a kind."""
    if kind == "put" or kind == "leave":
        return quick_bound(setting)
    if kind == "join":
        return setting.patience + quick_bound(setting)
    if kind == "revive":
        return names * setting.patience
    if kind == "crash":
        return names * setting.patience + setting.grace
    raise DeedRefused((kind,))
