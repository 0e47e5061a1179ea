"""Slow calls: two sides compare their books by sums over ranges of seats, until both hold the same."""

from livingroll.ranges import moments
from livingroll.sayings import rank

# A saying has four parts and a range sum five; so a queue may hold both.
SUM_PARTS = 5


class Side:
    """One side of a slow call, with the queue of the items that it has to send."""

    def __init__(self, setting, book, taker=None):
        self.setting = setting
        self._book = book
        self._taker = taker
        self._queue = []

    def begin(self, stripe):
        """Put in the sum of the whole ring and the sums of the seats of a stripe, one by one."""
        self._put_sum(0, self.setting.seats)
        low = stripe * self.setting.room
        for seat in range(low, min(low + self.setting.room, self.setting.seats)):
            self._put_sum(seat, 1)

    def _put_sum(self, low, width):
        """Put in the own sum of a range, as the book is now."""
        self._queue.append((low, width) + moments(self._book, low, width))

    def next_items(self):
        """Remove the items of the next letter; return them as (sayings, sums)."""
        room = self.setting.room
        items = self._queue[:room]
        self._queue = self._queue[room:]
        sayings = [item for item in items if len(item) != SUM_PARTS]
        sums = [item for item in items if len(item) == SUM_PARTS]
        return (sayings, sums)

    def receive(self, sayings, sums):
        """Treat the items of a letter; return the sayings that were taken."""
        taken = []
        for saying in sayings:
            if self._receive_saying(saying):
                taken.append(saying)
        for row in sums:
            self._receive_sum(row)
        return taken

    def _receive_saying(self, saying):
        """Take a later saying and return True, or put in a later one that is held."""
        held = self._book.of(saying[0])
        if rank(saying) > rank(held):
            self._take(saying)
            return True
        if rank(held) > rank(saying):
            self._queue.append(held)
        return False

    def _take(self, saying):
        """Take a saying into the book."""
        taker = self._taker
        if taker is None:
            self._book.take(saying)
        else:
            taker(saying)

    def _receive_sum(self, row):
        """Put in what tells more about a range in which the books differ."""
        low, width = row[:2]
        if row[2:] == moments(self._book, low, width):
            return
        if width > 1:
            half = width // 2
            self._put_sum(low, half)
            self._put_sum(low + half, half)
        elif low in self._book:
            self._queue.append(self._book.of(low))
        else:
            self._put_sum(low, 1)

    @property
    def idle(self):
        """True if nothing is left to send."""
        return not self._queue


def reconcile(setting, book, other, *, stripe=0):
    """Let two sides talk over copies of the books; return (first book, second book, number of letters)."""
    first = book.copy()
    second = other.copy()
    caller = Side(setting, first)
    called = Side(setting, second)
    caller.begin(stripe)
    letters = 0
    while not (caller.idle and called.idle):
        hand_over(caller, called)
        hand_over(called, caller)
        letters += 2
    return (first, second, letters)


def hand_over(sender, receiver):
    """Let one side receive the next letter of the other one."""
    sayings, sums = sender.next_items()
    receiver.receive(sayings, sums)


def item_bound(setting, differing):
    """Return the most items of a talk about books that differ in so many seats."""
    return 1 + setting.room + (2 * setting.bits + 4) * differing


def letter_bound(setting, differing):
    """Return the most letters of a talk about books that differ in so many seats."""
    return 2 * (1 + item_bound(setting, differing))
