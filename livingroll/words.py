"""The one file of helpers: numbers as values and as words, plain texts, and the sum behind the checks of texts."""

PLAIN_SIGNS = "abcdefghijklmnopqrstuvwxyz0123456789"


def is_integer(value):
    """Tell whether a value is an integer; True and False are another kind."""
    return isinstance(value, int) and not isinstance(value, bool)


def is_below(value, limit):
    """Tell whether a value is an integer of 0 .. limit - 1."""
    return is_integer(value) and 0 <= value < limit


def is_plain(value, most):
    """Tell whether a value is a text of at most so many characters, each a lower-case letter or a digit."""
    if not (isinstance(value, str) and len(value) <= most):
        return False
    return all([sign in PLAIN_SIGNS for sign in value])


def number_of(word, digits):
    """Return the number that a word writes with at most so many digits, or None."""
    # The length comes first: Python refuses to convert some thousand digits.
    if len(word) > digits or not (word.isascii() and word.isdigit()):
        return None
    if word.startswith("0") and word != "0":
        return None
    return int(word)


def weighted_sum(text):
    """Return the sum of (i + 1) * ord(c) over the characters c of a text with index i."""
    return sum([place * ord(sign) for place, sign in enumerate(text, start=1)])
