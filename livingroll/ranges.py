"""Sums over ranges of seats, by which two books are compared."""

from livingroll.sayings import rank


def moments(book, low, width):
    """Return the sums of r, r * n and r * n * n over a range, r the rank held about its n-th seat."""
    plain = 0
    weighed = 0
    squared = 0
    for place in range(1, width + 1):
        held = rank(book.of(low + place - 1))
        plain += held
        weighed += held * place
        squared += held * place * place
    return (plain, weighed, squared)


def clash(book, other):
    """Tell whether the books differ in a range of the halving tree in which their moments are equal."""
    seats = book.setting.seats
    widths = [1 << power for power in range(book.setting.bits + 1)]
    ranges = [(low, width) for width in widths for low in range(0, seats, width)]
    return any([is_clash(book, other, low, width) for low, width in ranges])


def is_clash(book, other, low, width):
    """Tell whether the books differ in a range though their moments of it are equal."""
    if all([book.of(seat) == other.of(seat) for seat in range(low, low + width)]):
        return False
    return moments(book, low, width) == moments(other, low, width)
