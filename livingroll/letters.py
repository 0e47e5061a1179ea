"""The letters that members send to one another.

Each class has size, head and parts in its own body, as the interface of the document asks,
also where they add nothing to those of Letter.
"""


class Letter:
    """The base class of the letters that are sent."""

    KIND = ""

    def __init__(self, sender, receiver, beat, number, sayings):
        self.sender = sender
        self.receiver = receiver
        self.beat = beat
        self.number = number
        self.sayings = list(sayings)

    @property
    def size(self):
        """The number of items."""
        return len(self.sayings)

    def head(self):
        """Return the words of the head of the written form."""
        numbers = [self.sender, self.receiver, self.beat, self.number]
        return [self.KIND] + [str(number) for number in numbers]

    def parts(self):
        """Return all that the letter tells, as a tuple."""
        return (self.KIND, self.sender, self.receiver, self.beat, self.number, tuple(self.sayings))


class Ask(Letter):
    """A quick call."""

    KIND = "ask"

    @property
    def size(self):
        """The number of items."""
        return len(self.sayings)

    def head(self):
        """Return the words of the head of the written form."""
        return super().head()

    def parts(self):
        """Return all that the letter tells, as a tuple."""
        return super().parts()


class Answer(Letter):
    """The answer to an Ask, with the number of that Ask."""

    KIND = "answer"

    @property
    def size(self):
        """The number of items."""
        return len(self.sayings)

    def head(self):
        """Return the words of the head of the written form."""
        return super().head()

    def parts(self):
        """Return all that the letter tells, as a tuple."""
        return super().parts()


class Probe(Letter):
    """Asks the receiver to try a seat."""

    KIND = "probe"

    def __init__(self, sender, receiver, beat, number, sayings, about):
        super().__init__(sender, receiver, beat, number, sayings)
        self.about = about

    @property
    def size(self):
        """The number of items."""
        return len(self.sayings)

    def head(self):
        """Return the words of the head of the written form."""
        return super().head() + [str(self.about)]

    def parts(self):
        """Return all that the letter tells, as a tuple."""
        return super().parts() + (self.about,)


class Probed(Letter):
    """The answer to a Probe: whether the seat was reached."""

    KIND = "probed"

    def __init__(self, sender, receiver, beat, number, sayings, about, reached):
        super().__init__(sender, receiver, beat, number, sayings)
        self.about = about
        self.reached = reached

    @property
    def size(self):
        """The number of items."""
        return len(self.sayings)

    def head(self):
        """Return the words of the head of the written form."""
        return super().head() + [str(self.about), "yes" if self.reached else "no"]

    def parts(self):
        """Return all that the letter tells, as a tuple."""
        return super().parts() + (self.about, self.reached)


class Sums(Letter):
    """One letter of a slow call, with sums over ranges of seats beside the sayings."""

    KIND = "sums"

    def __init__(self, sender, receiver, beat, number, sayings, sums, position, more):
        super().__init__(sender, receiver, beat, number, sayings)
        self.sums = list(sums)
        self.position = position
        self.more = more

    @property
    def size(self):
        """The number of items."""
        return len(self.sayings) + len(self.sums)

    def head(self):
        """Return the words of the head of the written form."""
        return super().head() + [str(self.position), "more" if self.more else "last"]

    def parts(self):
        """Return all that the letter tells, as a tuple."""
        return super().parts() + (tuple(self.sums), self.position, self.more)
