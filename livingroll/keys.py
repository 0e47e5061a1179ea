"""Keyed texts: which living seat keeps a key."""

from livingroll.errors import InvalidKey
from livingroll.setting import distance, first_from
from livingroll.words import is_plain

MOST_KEY = 20


def check_key(key):
    """Raise InvalidKey if a value is no key."""
    if not is_plain(key, MOST_KEY) or key == "":
        raise InvalidKey(key)


def place_of(setting, key):
    """Return the place of a key on the ring."""
    check_key(key)
    place = 0
    for sign in key:
        place = (place * 31 + ord(sign)) % setting.seats
    return place


def keeper(setting, key, alive):
    """Return the living seat that keeps a key, or None."""
    return first_from(setting, place_of(setting, key), alive)


def shares(setting, alive):
    """Return the pairs (seat, number of places that fall to it), ascending by seat."""
    seats = sorted(alive)
    # Index -1 is the last seat, which is the one before the first seat; from a seat on to itself it is a whole ring.
    return [(seat, 1 + distance(setting, seats[at - 1] + 1, seat)) for at, seat in enumerate(seats)]


def moved(setting, keys, before, after):
    """Return (key, old keeper, new keeper) for each of the keys that another seat keeps now."""
    rows = [(key, keeper(setting, key, before), keeper(setting, key, after)) for key in keys]
    return [row for row in rows if row[1] != row[2]]
