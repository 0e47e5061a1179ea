"""The constants of a group and the ring of its seats."""

from livingroll.errors import InvalidSetting
from livingroll.words import is_integer, number_of

FIELDS = ("bits", "patience", "room", "grace", "helpers")


class Setting:
    """The constants of a group."""

    MOST_BITS = 8
    MOST_PATIENCE = 6
    MOST_ROOM = 64
    MOST_GRACE = 200
    MOST_HELPERS = 3

    def __init__(self, bits, patience, room, *, grace=6, helpers=1):
        check_field("bits", bits, 1, self.MOST_BITS)
        check_field("patience", patience, 1, self.MOST_PATIENCE)
        check_field("room", room, 1, self.MOST_ROOM)
        check_field("grace", grace, 1, self.MOST_GRACE)
        check_field("helpers", helpers, 0, self.MOST_HELPERS)
        self.bits = bits
        self.patience = patience
        self.room = room
        self.grace = grace
        self.helpers = helpers

    @property
    def seats(self):
        """The number of seats of the ring."""
        return 1 << self.bits

    @property
    def cycle(self):
        """The rounds of one pass of the plan of quick calls."""
        return self.bits * self.patience

    @property
    def stripes(self):
        """The number of stripes of room seats that cover the ring."""
        return (self.seats + self.room - 1) // self.room

    @classmethod
    def of_text(cls, text):
        """Read the written form."""
        bits, patience, room, grace, helpers = field_numbers(text)
        return cls(bits, patience, room, grace=grace, helpers=helpers)

    def __str__(self):
        return f"bits={self.bits} patience={self.patience} room={self.room} grace={self.grace} helpers={self.helpers}"


def check_field(field, value, least, most):
    """Raise InvalidSetting if the value of a field is not an integer of least .. most."""
    if not (is_integer(value) and least <= value <= most):
        raise InvalidSetting(field)


def field_numbers(text):
    """Return the five numbers that the written form of a setting tells."""
    words = text.split(" ") if isinstance(text, str) else []
    if len(words) != len(FIELDS):
        raise InvalidSetting("text")
    numbers = []
    for field, word in zip(FIELDS, words):
        name, _, digits = word.partition("=")
        number = number_of(digits, 3)
        if name != field or number is None:
            raise InvalidSetting("text")
        numbers.append(number)
    return numbers


def distance(setting, seat, other):
    """Return how many steps the way around the ring from seat to other has."""
    return (other - seat) % setting.seats


def first_from(setting, place, held):
    """Return the seat of held that is met first from place on, or None."""
    return min(held, key=lambda seat: distance(setting, place, seat), default=None)


def arc(setting, low, high, held):
    """Return the seats of held on the way from low (excluded) to high (included)."""
    # Counted from behind low, the way from low to low itself is the longest one, not the shortest.
    start = low + 1
    span = distance(setting, start, high)
    steps = sorted([distance(setting, start, seat) for seat in held])
    return [(start + step) % setting.seats for step in steps if step <= span]
