"""Which letters the net loses. A world asks once for each call."""


class Losses:
    """Loses nothing."""

    def __init__(self):
        self.asked = 0

    def __call__(self, caller, called, kind):
        """Return the index of the letter of a call that is lost, or None."""
        self.asked += 1
        return None


class DrawnLosses(Losses):
    """Loses what a list of digits says, which begins again when it is used up."""

    def __init__(self, digits):
        super().__init__()
        self._digits = list(digits)

    def __call__(self, caller, called, kind):
        """Return the index of the letter of a call that is lost, or None."""
        return self._drawn()

    def _drawn(self):
        """Use up the next digit; return the index that it stands for, or None."""
        digit = self._digits[self.asked % len(self._digits)] if self._digits else 0
        self.asked += 1
        return digit - 1 if digit > 0 else None


class FairLosses(DrawnLosses):
    """Loses no patience consecutive calls of one kind over the same ordered pair."""

    def __init__(self, digits, patience):
        super().__init__(digits)
        self._patience = patience
        self._failed = {}

    def __call__(self, caller, called, kind):
        """Return the index of the letter of a call that is lost, or None."""
        call = (caller, called, kind)
        lost = self._drawn()
        failed = self._failed.get(call, 0)
        if failed >= self._patience - 1:
            lost = None
        self._failed[call] = 0 if lost is None else failed + 1
        return lost
