"""The judge of journals: which entries are wrong, and who must have lied."""

from itertools import combinations

from livingroll.errors import TooMuch
from livingroll.sayings import MARKS, rank
from livingroll.words import is_integer

MOST_SEATS = 12


def wrong_entries(journals, *, partial=()):
    """Return (owner, run index, entry index, reason) of all wrong entries, ascending."""
    said = {owner: sayings_of(journals[owner]) for owner in journals}
    wrong = []
    for owner in sorted(journals):
        for run_index, run in enumerate(journals[owner]):
            for index, reason in wrong_of_run(owner, run, said, partial):
                wrong.append((owner, run_index, index, reason))
    return wrong


def first_wrong(journals, *, partial=()):
    """Return the first wrong entry, or None."""
    wrong = wrong_entries(journals, partial=partial)
    return wrong[0] if wrong else None


def sayings_of(journal):
    """Return a dict of True for (seat, life, mark) of all entries of a journal that have the right form."""
    return {entry[:3]: True for run in journal for entry in run if has_form(entry)}


def has_form(entry):
    """Tell whether a value is an entry (seat, life, mark, source)."""
    if not (isinstance(entry, tuple) and len(entry) == 4):
        return False
    seat, life, mark, source = entry
    if not (is_count(seat) and is_count(life) and isinstance(mark, str) and mark in MARKS):
        return False
    return source is None or is_count(source)


def is_count(value):
    """Tell whether a value is an integer from 0."""
    return is_integer(value) and value >= 0


def wrong_of_run(owner, run, said, partial):
    """Return (entry index, reason) of the wrong entries of a run."""
    wrong = []
    # The last entry about each seat, and whether an entry with a source stands before.
    last = {}
    is_behind = False
    for index, entry in enumerate(run):
        reason = "form"
        if has_form(entry):
            reason = reason_of(owner, entry, last.get(entry[0]), is_behind, said, partial)
            last[entry[0]] = entry
            is_behind = is_behind or entry[3] is not None
        if reason is not None:
            wrong.append((index, reason))
    return wrong


def reason_of(owner, entry, before, is_behind, said, partial):
    """Return the first reason by which an entry of the right form is wrong, or None."""
    seat, _, mark, source = entry
    if source is None and is_behind:
        return "kept"
    if rank(entry) <= rank(before):
        return "rise"
    if source == owner and seat == owner and mark not in ("alive", "left"):
        return "own"
    if source == owner and seat != owner and is_doubtful(owner, entry, before, partial):
        return "doubt"
    if source is None or source == owner or source in partial:
        return None
    return None if entry[:3] in said.get(source, {}) else "source"


def is_doubtful(owner, entry, before, partial):
    """Tell whether an owner cannot have said an entry about another seat by itself."""
    _, life, mark, _ = entry
    if mark == "left":
        return True
    if mark == "alive":
        return life > 0
    ahead = "alive" if mark == "suspect" else "suspect"
    return owner not in partial and (before is None or before[1:3] != (life, ahead))


def explains(journals, seats, *, partial=()):
    """Tell whether all wrong entries are explained if exactly the seats of a list have lied."""
    return is_explained(suspects_of(journals, partial), seats)


def least_liars(journals, *, partial=()):
    """Return the shortest list of seats that explains all wrong entries, of several the least one."""
    groups = suspects_of(journals, partial)
    seats = sorted({seat for group in groups for seat in group})
    if len(seats) > MOST_SEATS:
        raise TooMuch(MOST_SEATS)
    return least_cover(groups, seats)


def suspects_of(journals, partial):
    """Return the groups of seats of which at least one has lied, each one once, for all wrong entries."""
    groups = []
    for owner, run_index, index, reason in wrong_entries(journals, partial=partial):
        if reason == "source":
            groups.append((owner, journals[owner][run_index][index][3]))
        else:
            groups.append((owner,))
    return sorted(set(groups))


def is_explained(groups, seats):
    """Tell whether a seat of each group is among the seats."""
    return all([len([seat for seat in group if seat in seats]) > 0 for group in groups])


def least_cover(groups, seats):
    """Return the first of the shortest ascending lists of the seats that explain all groups."""
    for size in range(len(seats)):
        for chosen in combinations(seats, size):
            if is_explained(groups, chosen):
                return list(chosen)
    return seats
