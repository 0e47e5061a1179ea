"""Books: the latest saying that was heard about each seat."""

from livingroll.errors import InvalidSaying
from livingroll.sayings import check_saying, format_saying, parse_saying, rank


class Book:
    """Holds for each seat at most one saying, the latest of those that it took."""

    def __init__(self, setting, sayings=()):
        self.setting = setting
        self._latest = latest_of(setting, sayings)

    def take(self, saying):
        """Take a saying; return True if it is later than what was held about its seat."""
        check_saying(self.setting, saying)
        if rank(saying) <= rank(self.of(saying[0])):
            return False
        self._latest[saying[0]] = saying
        return True

    def of(self, seat):
        """Return the saying held about a seat, or None."""
        return self._latest.get(seat)

    def rows(self):
        """Return the sayings, ascending by seat."""
        return [self._latest[seat] for seat in self.held()]

    def held(self):
        """Return the ascending list of the seats about which a saying is held."""
        return sorted(self._latest)

    def marked(self, *marks):
        """Return the ascending list of the seats with one of the marks, or of all if none is given."""
        if not marks:
            return self.held()
        return [row[0] for row in self.rows() if row[2] in marks]

    def covers(self, other):
        """Tell whether this book holds all that the other one holds, or later sayings."""
        return not other.ahead_of(self)

    def ahead_of(self, other):
        """Return the rows that are later than what the other book holds."""
        return [row for row in self.rows() if rank(row) > rank(other.of(row[0]))]

    def copy(self):
        """Return a new equal book."""
        return Book(self.setting, self.rows())

    def text(self):
        """Return the written form."""
        return "".join([format_saying(row) + "\n" for row in self.rows()])

    @classmethod
    def of_text(cls, setting, text):
        """Read the written form."""
        if not isinstance(text, str) or not (text == "" or text.endswith("\n")):
            raise InvalidSaying(text)
        rows = []
        for line in text.split("\n")[:-1]:
            row = parse_saying(setting, line)
            if rows and row[0] <= rows[-1][0]:
                raise InvalidSaying(line)
            rows.append(row)
        return cls(setting, rows)

    def __contains__(self, seat):
        return seat in self._latest

    def __len__(self):
        return len(self._latest)

    def __or__(self, other):
        return Book(self.setting, self.rows() + other.rows())

    def __eq__(self, other):
        return isinstance(other, Book) and self._latest == other._latest


def latest_of(setting, sayings):
    """Return a dict from each seat to the first of its sayings that no later one follows."""
    latest = {}
    for saying in sayings:
        check_saying(setting, saying)
        if rank(saying) > rank(latest.get(saying[0])):
            latest[saying[0]] = saying
    return latest
