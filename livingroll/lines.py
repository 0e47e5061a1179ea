"""The lines of a desk: what they write, and how each one is done in a world."""

from livingroll.errors import InvalidLine
from livingroll.losses import Losses
from livingroll.sayings import parse_worth
from livingroll.words import number_of

NUMBER_DIGITS = 6
KINDS = ("quick", "slow", "probe")
# The lines of a fixed number of words; NUMBER and WORTH stand for a value.
FORMS = (
    ("join", "NUMBER", "via", "NUMBER"),
    ("leave", "NUMBER"),
    ("put", "NUMBER", "WORTH"),
    ("crash", "NUMBER"),
    ("crash", "NUMBER", "keep", "NUMBER"),
    ("revive", "NUMBER"),
    ("cut", "NUMBER", "NUMBER"),
    ("mend", "NUMBER", "NUMBER"),
    ("heal",),
    ("stray", "NUMBER"),
)


class NamedLosses(Losses):
    """Loses the same letter of each call of a caller and a kind."""

    def __init__(self, indexes):
        super().__init__()
        self._indexes = {call: indexes[call] for call in indexes}

    def __call__(self, caller, called, kind):
        """Return the index of the letter of a call that is lost, or None."""
        self.asked += 1
        return self._indexes.get((caller, kind))


def read_line(setting, line):
    """Return the first word of a line and the values that it tells, as a list; raise InvalidLine if it has no form."""
    words = line.split(" ") if isinstance(line, str) else [""]
    if words[0] == "tick":
        values = tick_values(setting, words[1:])
    elif words[0] == "split":
        values = split_values(words[1:])
    else:
        values = form_values(words)
    if values is None:
        raise InvalidLine(line)
    return [words[0]] + values


def form_values(words):
    """Return the values that the words tell by one of the forms, or None."""
    for form in FORMS:
        if len(form) == len(words):
            values = [value_of(part, word) for part, word in zip(form, words)]
            if None not in values:
                return [value for part, value in zip(form, values) if part == "NUMBER" or part == "WORTH"]
    return None


def value_of(part, word):
    """Return what a word tells in the place of a part of a form, or None."""
    if part == "NUMBER":
        return number_of(word, NUMBER_DIGITS)
    if part == "WORTH":
        return parse_worth(word)
    return word if word == part else None


def split_values(words):
    """Return the groups that the words tell, in a list, or None."""
    groups = [[number_of(sign, NUMBER_DIGITS) for sign in word.split(",")] for word in words]
    if len(groups) < 2 or None in [seat for group in groups for seat in group]:
        return None
    return [groups]


def tick_values(setting, words):
    """Return a dict from (caller, kind) to the index that is lost, and the sleepers, or None."""
    indexes = {}
    asleep = []
    for word in words:
        head, *rest = word.split(":")
        numbers = [number_of(part, NUMBER_DIGITS) for part in rest]
        if numbers == [] or numbers[0] is None or numbers[0] >= setting.seats:
            return None
        if head == "asleep" and len(rest) == 1:
            asleep.append(numbers[0])
        elif head == "lose" and len(rest) == 3 and rest[1] in KINDS and numbers[2] is not None:
            indexes.setdefault((numbers[0], rest[1]), numbers[2])
        else:
            return None
    return [indexes, asleep]


def do_line(world, values):
    """Do in a world what a line tells."""
    word, *rest = values
    if word == "tick":
        world.tick(NamedLosses(rest[0]), asleep=rest[1])
    elif word == "join":
        world.admit(rest[0], rest[1])
    elif word == "leave":
        world.leave(rest[0])
    elif word == "put":
        world.put(rest[0], rest[1])
    elif word == "crash":
        world.crash(rest[0], keep=rest[1] if len(rest) > 1 else 0)
    elif word == "revive":
        world.revive(rest[0])
    elif word == "cut":
        world.sever(rest[0], rest[1])
    elif word == "mend":
        world.mend(rest[0], rest[1])
    elif word == "split":
        groups = rest[0]
        world.divide(*groups)
    elif word == "heal":
        world.heal()
    elif word == "stray":
        world.stray(rest[0])
