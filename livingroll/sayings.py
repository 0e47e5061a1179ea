"""Sayings: what a member may hold to be true of a seat."""

from livingroll.errors import InvalidSaying
from livingroll.words import is_below, is_plain, number_of

MARKS = ("alive", "suspect", "dead", "left")
# One above the index of each mark in MARKS. Books are joined by ranks, and an operator must not call
# `index`, since InvalidPlan has an attribute of that name.
MARK_RANKS = {"alive": 1, "suspect": 2, "dead": 3, "left": 4}
LIFE_DIGITS = 60
MOST_WORTH = 12


def check_saying(setting, saying):
    """Return a saying, or raise InvalidSaying if the value is none."""
    if not is_saying(setting, saying):
        raise InvalidSaying(saying)
    return saying


def is_saying(setting, value):
    """Tell whether a value is a saying about a seat of the ring."""
    if not (isinstance(value, tuple) and len(value) == 4):
        return False
    seat, life, mark, worth = value
    if not (is_below(seat, setting.seats) and is_below(life, 10 ** 60)):
        return False
    return mark in MARKS and is_worth(worth)


def is_worth(value):
    """Tell whether a value is a text that a member may show."""
    return is_plain(value, MOST_WORTH)


def rank(saying):
    """Return the place of a saying in the line of all sayings about its seat; 0 for None."""
    if saying is None:
        return 0
    return 4 * saying[1] + MARK_RANKS[saying[2]]


def later(one, other):
    """Return the later of two sayings about a seat, or one if they have the same rank."""
    if one[0] != other[0]:
        raise InvalidSaying(other)
    return other if rank(other) > rank(one) else one


def format_saying(saying):
    """Return the written form of a saying."""
    seat, life, mark, worth = saying
    shown = format_worth(worth)
    return f"{seat} {life} {mark} {shown}"


def parse_saying(setting, text):
    """Read the written form of a saying."""
    words = text.split(" ") if isinstance(text, str) else []
    if len(words) != 4:
        raise InvalidSaying(text)
    seat = number_of(words[0], LIFE_DIGITS)
    life = number_of(words[1], LIFE_DIGITS)
    saying = (seat, life, words[2], parse_worth(words[3]))
    if not is_saying(setting, saying):
        raise InvalidSaying(text)
    return saying


def format_worth(worth):
    """Return the word that stands for a worth."""
    return worth if worth != "" else "-"


def parse_worth(word):
    """Return the worth that a word stands for, or None."""
    if word == "-":
        return ""
    return word if word != "" and is_worth(word) else None
