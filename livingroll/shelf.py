"""A table of keyed texts, shown by the seats that keep the keys."""

from livingroll.errors import InvalidSaying, UnknownKey
from livingroll.keys import check_key, keeper
from livingroll.sayings import is_worth


class Shelf:
    """Planned entries, at most one for each key."""

    def __init__(self, setting):
        self.setting = setting
        self._texts = {}

    def enter(self, key, text):
        """Plan an entry, in the place of one with the same key."""
        check_key(key)
        if text == "" or not is_worth(text):
            raise InvalidSaying(text)
        self._texts[key] = text

    def drop(self, key):
        """Remove an entry."""
        check_key(key)
        if key not in self._texts:
            raise UnknownKey(key)
        del self._texts[key]

    def duties(self, book):
        """Return a dict from each seat that a book marks as alive to the entries (key, text) that it keeps."""
        alive = book.marked("alive")
        kept = {seat: [] for seat in alive}
        if alive:
            for key, text in self.rows():
                kept[keeper(self.setting, key, alive)].append((key, text))
        return kept

    def rows(self):
        """Return the entries (key, text), ascending by key."""
        return [(key, self._texts[key]) for key in sorted(self._texts)]

    @property
    def total(self):
        """The number of entries."""
        return len(self._texts)

    def merged(self, *others, keep=True):
        """Return a new shelf with all entries; of two with one key the earlier one is kept, or the later one wins."""
        shelf = Shelf(self.setting)
        for part in (self, *others):
            for key, text in part.rows():
                if not keep or key not in shelf._texts:
                    shelf.enter(key, text)
        return shelf
