"""The written form of letters."""

from livingroll.errors import InvalidLetter, InvalidSaying
from livingroll.letters import Answer, Ask, Probe, Probed, Sums
from livingroll.sayings import format_saying, parse_saying
from livingroll.words import number_of, weighted_sum

MOST_TEXT = 90000
CHECK_PRIME = 99991
COUNT_DIGITS = 60
SUM_DIGITS = 80
POSITION_DIGITS = 6
HEAD_WORDS = {"ask": 5, "answer": 5, "probe": 6, "probed": 7, "sums": 7}


def format_letter(letter):
    """Return the written form of a letter."""
    items = ["= " + format_saying(saying) for saying in letter.sayings]
    if isinstance(letter, Sums):
        items = items + ["+ " + " ".join([str(number) for number in row]) for row in letter.sums]
    checked = "|".join([" ".join(letter.head())] + items) + "|"
    return checked + check_of(checked)


def check_of(checked):
    """Return the check of the text up to and including the last bar of a letter."""
    check = weighted_sum(checked) % CHECK_PRIME
    return f"{check:05d}"


def parse_letter(setting, text):
    """Read the written form of a letter; raise InvalidLetter with the first reason that holds."""
    check_text(text)
    head, *items = text[:-6].split("|")
    told = head_values(setting, head)
    sayings, sums = item_values(setting, told[0], items)
    if len(items) > setting.room + 2:
        raise InvalidLetter("size")
    return made_letter(told, sayings, sums)


def check_text(text):
    """Raise InvalidLetter if a value is no text, is too long, or does not end in its check."""
    if not isinstance(text, str) or len(text) > MOST_TEXT:
        raise InvalidLetter("text")
    if len(text) < 6 or text[-6] != "|" or text[-5:] != check_of(text[:-5]):
        raise InvalidLetter("check")


def head_values(setting, head):
    """Return what the words of a head tell, the kind first."""
    words = head.split(" ")
    kind = words[0]
    if len(words) != HEAD_WORDS.get(kind):
        raise InvalidLetter("head")
    told = [kind, seat_of(setting, words[1]), seat_of(setting, words[2])]
    told = told + [number_of(word, COUNT_DIGITS) for word in words[3:5]]
    if kind == "probe" or kind == "probed":
        told.append(seat_of(setting, words[5]))
    if kind == "probed":
        told.append(choice_of(words[6], "yes", "no"))
    if kind == "sums":
        told.append(number_of(words[5], POSITION_DIGITS))
        told.append(choice_of(words[6], "more", "last"))
    if None in told or told[1] == told[2]:
        raise InvalidLetter("head")
    return told


def seat_of(setting, word):
    """Return the seat of the ring that a word writes, or None."""
    seat = number_of(word, COUNT_DIGITS)
    return seat if seat is not None and seat < setting.seats else None


def choice_of(word, right, wrong):
    """Return True or False for the two words that stand for them, and None for another one."""
    if word == right:
        return True
    return False if word == wrong else None


def item_values(setting, kind, items):
    """Return the sayings and the sums that the items of a letter write."""
    sayings = []
    sums = []
    for item in items:
        if item.startswith("= ") and not sums:
            sayings.append(item_saying(setting, item[2:]))
        elif item.startswith("+ ") and kind == "sums":
            sums.append(item_sum(setting, item[2:]))
        else:
            raise InvalidLetter("item")
    return sayings, sums


def item_saying(setting, text):
    """Read the saying of an item."""
    try:
        return parse_saying(setting, text)
    except InvalidSaying:
        raise InvalidLetter("item") from None


def item_sum(setting, text):
    """Read the range sum of an item."""
    numbers = [number_of(word, SUM_DIGITS) for word in text.split(" ")]
    if len(numbers) != 5 or None in numbers:
        raise InvalidLetter("item")
    low, width = numbers[:2]
    widths = [1 << power for power in range(setting.bits + 1)]
    if width not in widths or low % width != 0 or low >= setting.seats:
        raise InvalidLetter("item")
    return tuple(numbers)


def made_letter(told, sayings, sums):
    """Return the letter of what its head and its items tell."""
    kind, sender, receiver, beat, number, *rest = told
    if kind == "ask":
        return Ask(sender, receiver, beat, number, sayings)
    if kind == "answer":
        return Answer(sender, receiver, beat, number, sayings)
    if kind == "probe":
        return Probe(sender, receiver, beat, number, sayings, rest[0])
    if kind == "probed":
        return Probed(sender, receiver, beat, number, sayings, rest[0], rest[1])
    return Sums(sender, receiver, beat, number, sayings, sums, rest[0], rest[1])
