"""Points 56 to 58: wrong entries of journals, and liars."""

import random
from itertools import combinations

from livingroll.errors import TooMuch
from livingroll.judge import explains, first_wrong, least_liars, wrong_entries
from livingroll.sayings import MARKS
from tests.helpers import Case
from tests.worlds import drawn_losses, drawn_run, drawn_world

ODD = (
    None, True, False, 0, 1, "x", "", b"", [], {}, (), (1,), (1, 1, "alive"), (1, 1, "alive", 1, 1), [1, 1, "alive", 1],
    (-1, 1, "alive", 1), (True, 1, "alive", 1), (False, 1, "alive", 1), ("1", 1, "alive", 1), (None, 1, "alive", 1),
    (1, -1, "alive", 1), (1, True, "alive", 1), (1, None, "alive", 1), (1, "1", "alive", 1), (1, 1.0, "alive", 1),
    (1, 1, "Alive", 1), (1, 1, "gone", 1), (1, 1, "", 1), (1, 1, None, 1), (1, 1, 0, 1), (1, 1, ["alive"], 1),
    (1, 1, ("alive",), 1), (1, 1, b"alive", 1),
    (1, 1, "alive", -1), (1, 1, "alive", True), (1, 1, "alive", False), (1, 1, "alive", "1"), (1, 1, "alive", (1,)),
)


def reasons(run, owner=1, others=None, partial=()):
    """The reasons of the entries of the one run of an owner, None for those that are not wrong."""
    told = {index: reason for o, _, index, reason in wrong_entries({**(others or {}), owner: [run]}, partial=partial)
            if o == owner}
    return [told.get(index) for index in range(len(run))]


def has_form(entry):
    def count(value):
        return isinstance(value, int) and value is not True and value is not False and value >= 0

    return (isinstance(entry, tuple) and len(entry) == 4 and count(entry[0]) and count(entry[1])
            and isinstance(entry[2], str) and entry[2] in MARKS and (entry[3] is None or count(entry[3])))


def by_the_words(journals, partial):
    """Point 56 once more: for each entry all that it names is looked for anew."""
    wrong = []
    for owner in sorted(journals):
        for at, run in enumerate(journals[owner]):
            for index, entry in enumerate(run):
                reason = reason_by_the_words(journals, partial, owner, run, index)
                if reason:
                    wrong.append((owner, at, index, reason))
    return wrong


def reason_by_the_words(journals, partial, owner, run, index):
    entry = run[index]
    if not has_form(entry):
        return "form"
    seat, life, mark, source = entry
    before = [other for other in run[:index] if has_form(other)]
    same = [other for other in before if other[0] == seat]
    if source is None and [other for other in before if other[3] is not None]:
        return "kept"
    if same and 4 * life + MARKS.index(mark) <= 4 * same[-1][1] + MARKS.index(same[-1][2]):
        return "rise"
    if source == owner == seat and mark in ("suspect", "dead"):
        return "own"
    if source == owner != seat:
        last = same[-1][1:3] if same else None
        if mark == "left" or mark == "alive" and life > 0:
            return "doubt"
        if owner not in partial and mark == "suspect" and last != (life, "alive"):
            return "doubt"
        if owner not in partial and mark == "dead" and last != (life, "suspect"):
            return "doubt"
    if source is not None and source != owner and source not in partial:
        told = [other for other_run in journals.get(source, []) for other in other_run if has_form(other)]
        if entry[:3] not in [other[:3] for other in told]:
            return "source"
    return None


def liars_by_the_words(wrong, journals):
    """The groups of seats of which one has lied, and the first of the shortest lists that names one of each."""
    groups = []
    for owner, run, index, reason in wrong:
        groups.append({owner, journals[owner][run][index][3]} if reason == "source" else {owner})
    seats = sorted(set().union(*groups))
    for size in range(len(seats) + 1):
        for chosen in combinations(seats, size):
            if all(group & set(chosen) for group in groups):
                return groups, list(chosen)


def drawn_entry(draw):
    if draw.random() < 0.08:
        return draw.choice(ODD)
    return (draw.randrange(3), draw.randrange(3), draw.choice(MARKS), draw.choice((None, 0, 1, 2, 3)))


def drawn_journals(draw):
    return {owner: [[drawn_entry(draw) for _ in range(draw.randrange(7))] for _ in range(draw.randrange(4))]
            for owner in draw.sample(range(4), draw.randrange(5))}


class Form(Case):
    def test_odd_values(self):
        for entry in ODD:
            self.assertEqual(["form"], reasons([entry]), entry)

    def test_right_values(self):
        for entry in ((0, 0, "alive", None), (5, 10 ** 70, "dead", None), (10 ** 30, 1, "left", None), (1, 0, "alive", 1),
                      (1, 9, "left", 1), (2, 0, "alive", 1)):
            self.assertEqual([None], reasons([entry]))

    def test_other_journals_without_entries(self):
        self.assertEqual([], wrong_entries({}))
        self.assertEqual([], wrong_entries({1: [], 2: [[]], 3: [[], []]}))
        self.assertIsNone(first_wrong({}))
        self.assertIsNone(first_wrong({1: [], 2: [[]]}))


class Kept(Case):
    def test_a_kept_entry_behind_another_one(self):
        self.assertEqual([None, None], reasons([(1, 1, "alive", None), (2, 1, "alive", None)]))
        self.assertEqual([None, "kept"], reasons([(1, 1, "alive", 1), (2, 1, "alive", None)]))
        self.assertEqual([None, None, "kept", None, "kept"], reasons([
            (1, 1, "alive", None), (1, 2, "alive", 1), (2, 1, "alive", None), (1, 3, "alive", 1), (3, 1, "alive", None)]))

    def test_behind_a_wrong_entry(self):
        self.assertEqual(["own", "kept"], reasons([(1, 1, "dead", 1), (2, 1, "alive", None)]))

    def test_an_entry_without_form_is_skipped(self):
        for odd in ((1, 1, "gone", 1), (1, 1, "alive", True), "x"):
            self.assertEqual(["form", None], reasons([odd, (2, 1, "alive", None)]))

    def test_each_run_for_itself(self):
        journals = {1: [[(1, 1, "alive", 1)], [(1, 1, "alive", None)]]}
        self.assertEqual([], wrong_entries(journals))


class Rise(Case):
    def test_ranks(self):
        for first, second, told in (((1, "alive"), (1, "alive"), "rise"), ((1, "suspect"), (1, "alive"), "rise"),
                                    ((1, "left"), (2, "alive"), None), ((2, "alive"), (1, "left"), "rise"),
                                    ((1, "alive"), (1, "dead"), None), ((0, "alive"), (0, "alive"), "rise")):
            run = [(2, *first, None), (2, *second, None)]
            self.assertEqual([None, told], reasons(run))

    def test_the_last_entry_about_the_seat(self):
        run = [(2, 5, "alive", None), (3, 1, "alive", None), (2, 4, "alive", None), (2, 4, "dead", None), (3, 0, "left", None)]
        # The third one is wrong, and the fourth one is compared with it.
        self.assertEqual([None, None, "rise", None, "rise"], reasons(run))

    def test_an_entry_without_form_is_skipped(self):
        self.assertEqual([None, "form", None], reasons([(2, 5, "alive", None), (2, 9, "alive", True), (2, 6, "alive", None)]))

    def test_each_run_for_itself(self):
        self.assertEqual([], wrong_entries({1: [[(2, 5, "alive", None)], [(2, 5, "alive", None)]]}))


class Own(Case):
    def test_each_mark(self):
        told = {"alive": None, "left": None, "suspect": "own", "dead": "own"}
        for mark in MARKS:
            self.assertEqual([told[mark]], reasons([(1, 3, mark, 1)]))
            self.assertEqual([None], reasons([(1, 3, mark, None)]))
            self.assertEqual([told[mark]], reasons([(1, 3, mark, 1)], partial=(1,)))
            self.assertEqual([None], reasons([(1, 3, mark, 2)], others={2: [[(1, 3, mark, None)]]}))


class Doubt(Case):
    def test_left(self):
        self.assertEqual(["doubt"], reasons([(2, 3, "left", 1)]))
        self.assertEqual([None, "doubt"], reasons([(2, 3, "dead", None), (2, 3, "left", 1)]))
        self.assertEqual(["doubt"], reasons([(2, 3, "left", 1)], partial=[1]))

    def test_alive(self):
        self.assertEqual([None], reasons([(2, 0, "alive", 1)]))
        for life in (1, 2, 10 ** 20):
            self.assertEqual(["doubt"], reasons([(2, life, "alive", 1)]))
            self.assertEqual(["doubt"], reasons([(2, life, "alive", 1)], partial=(1,)))

    def test_suspect_and_dead(self):
        for mark, ahead in (("suspect", "alive"), ("dead", "suspect")):
            for before in MARKS[:MARKS.index(mark)]:
                for life in (2, 3):
                    run = [(2, life, before, None), (2, 3, mark, 1)]
                    told = None if (life, before) == (3, ahead) else "doubt"
                    self.assertEqual([None, told], reasons(run))
                    self.assertEqual([None, None], reasons(run, partial=(1,)))
            self.assertEqual(["doubt"], reasons([(2, 3, mark, 1)]))
            self.assertEqual([None], reasons([(2, 3, mark, 1)], partial=[5, 1]))
            self.assertEqual(["doubt"], reasons([(2, 3, mark, 1)], partial=[2]))

    def test_the_last_entry_counts_also_if_it_is_wrong(self):
        run = [(2, 9, "alive", None), (2, 3, "alive", None), (2, 3, "suspect", 1), (2, 3, "dead", 1)]
        self.assertEqual([None, "rise", None, None], reasons(run))

    def test_an_entry_without_form_is_skipped(self):
        run = [(2, 3, "alive", None), (2, 3, "gone", 1), (2, 3, "suspect", 1), (2, 3, "dead", -1), (2, 3, "dead", 1)]
        self.assertEqual([None, "form", None, "form", None], reasons(run))

    def test_other_seats_between(self):
        run = [(2, 3, "alive", None), (3, 4, "alive", None), (2, 3, "suspect", 1), (3, 4, "suspect", 1), (2, 3, "dead", 1)]
        self.assertEqual([None] * 5, reasons(run))

    def test_the_entry_ahead_stands_in_the_same_run(self):
        journals = {1: [[(2, 3, "alive", None)], [(2, 3, "suspect", 1)]]}
        self.assertEqual([(1, 1, 0, "doubt")], wrong_entries(journals))


class Source(Case):
    def test_an_entry_of_the_source(self):
        run = [(2, 3, "dead", 5)]
        for other in ([[(2, 3, "dead", None)]], [[], [(4, 1, "alive", None), (2, 3, "dead", 5)]], [[(2, 3, "dead", 1)]]):
            self.assertEqual([None], reasons(run, others={5: other}))
        for other in ([], [[]], [[(2, 3, "suspect", None)]], [[(2, 4, "dead", None)]], [[(3, 3, "dead", None)]],
                      [[(2, 3, "dead", True)]], [["x"]]):
            self.assertEqual(["source"], reasons(run, others={5: other}))
        self.assertEqual(["source"], reasons(run))

    def test_partial_sources(self):
        run = [(2, 3, "dead", 5)]
        for partial in ((5,), [5], [1, 5]):
            self.assertEqual([None], reasons(run, partial=partial))
        for partial in ((), (1,), [2]):
            self.assertEqual(["source"], reasons(run, partial=partial))

    def test_the_seat_itself_and_the_owner_as_what_is_spoken_of(self):
        self.assertEqual([None], reasons([(2, 3, "left", 2)], others={2: [[(2, 3, "left", 2)]]}))
        self.assertEqual([None], reasons([(1, 3, "dead", 2)], others={2: [[(1, 3, "dead", None)]]}))

    def test_an_entry_of_the_source_that_is_wrong(self):
        self.assertEqual([None], reasons([(2, 3, "left", 5)], others={5: [[(2, 3, "left", 5)]]}))

    def test_an_entry_at_any_place(self):
        # What stands behind in the journal of the source counts, too.
        others = {5: [[(2, 9, "alive", None)], [(2, 1, "alive", None), (2, 3, "dead", None)]]}
        self.assertEqual([None], reasons([(2, 3, "dead", 5)], others=others))


class Order(Case):
    """Each pair of reasons that can hold for one entry: the first one of the list is told."""

    def test_kept_and_rise(self):
        self.assertEqual([None, "kept"], reasons([(1, 3, "alive", 1), (1, 3, "alive", None)]))

    def test_rise_and_own(self):
        self.assertEqual([None, "rise"], reasons([(1, 3, "left", 1), (1, 3, "dead", 1)]))

    def test_rise_and_doubt(self):
        self.assertEqual([None, "rise"], reasons([(2, 3, "left", None), (2, 3, "left", 1)]))
        self.assertEqual([None, "rise"], reasons([(2, 3, "left", None), (2, 2, "suspect", 1)]))

    def test_rise_and_source(self):
        self.assertEqual([None, "rise"], reasons([(2, 3, "left", None), (2, 3, "dead", 5)]))

    def test_form_and_all(self):
        self.assertEqual([None, "form"], reasons([(1, 3, "left", 1), (1, 3, "dead", True)]))

    def test_own_doubt_and_source_exclude_one_another(self):
        run = [(1, 1, "dead", 1), (2, 1, "left", 1), (3, 1, "left", 4)]
        self.assertEqual(["own", "doubt", "source"], reasons(run))


class WrongEntries(Case):
    def test_several_owners_and_runs_in_the_right_order(self):
        journals = {
            7: [[(7, 1, "dead", 7)]],
            0: [[(0, 1, "alive", 0), "x"], [(2, 2, "left", 0), (2, 1, "alive", None)]],
            3: [[(3, 1, "alive", None), (3, 1, "alive", 9), (4, 4, "dead", 7)]],
        }
        told = [(0, 0, 1, "form"), (0, 1, 0, "doubt"), (0, 1, 1, "kept"), (3, 0, 1, "rise"), (3, 0, 2, "source"),
                (7, 0, 0, "own")]
        self.assertEqual(told, wrong_entries(journals))
        self.assertEqual(told[0], first_wrong(journals))
        self.assertEqual(told[:4] + told[5:], wrong_entries(journals, partial=(7,)))

    def test_first_wrong(self):
        self.assertIsNone(first_wrong({1: [[(1, 1, "alive", 1)]]}))
        self.assertEqual((1, 0, 0, "source"), first_wrong({1: [[(2, 1, "dead", 3)]]}))
        self.assertIsNone(first_wrong({1: [[(2, 1, "dead", 3)]]}, partial=[3]))

    def test_what_is_passed_stays_as_it_is(self):
        draw = random.Random(57)
        for _ in range(20):
            journals, partial = drawn_journals(draw), [1, 2]
            copy = {owner: [list(run) for run in journals[owner]] for owner in journals}
            for function in (wrong_entries, first_wrong, least_liars):
                function(journals, partial=partial)
            explains(journals, [3, 1, 3], partial=partial)
            self.assertEqual([copy, [1, 2]], [journals, partial])

    def test_drawn_journals(self):
        draw = random.Random(58)
        met = set()
        for _ in range(800):
            journals = drawn_journals(draw)
            partial = draw.sample(range(4), draw.choice((0, 0, 1, 2)))
            told = wrong_entries(journals, partial=draw.choice((partial, tuple(partial))))
            self.assertEqual(by_the_words(journals, partial), told)
            self.assertEqual(told[0] if told else None, first_wrong(journals, partial=partial))
            met |= {row[3] for row in told}
        self.assertEqual({"form", "kept", "rise", "own", "doubt", "source"}, met)


class Worlds(Case):
    def journals(self, draw):
        world = drawn_world(draw)
        drawn_run(draw, world, draw.randrange(50), losses=drawn_losses(draw, world.setting))
        return world.journals()

    def test_whole_journals(self):
        draw = random.Random(59)
        runs = []
        for _ in range(40):
            journals = self.journals(draw)
            runs.append(max(len(journal) for journal in journals.values()))
            self.assertEqual([], wrong_entries(journals))
            self.assertEqual([], least_liars(journals))
            self.assertTrue(explains(journals, []))
        self.assertGreater(max(runs), 2)

    def test_partial_journals(self):
        draw = random.Random(60)
        for _ in range(40):
            journals = self.journals(draw)
            partial = draw.sample(sorted(journals), draw.randrange(len(journals) + 1))
            for owner in partial:
                journals[owner] = [[entry for entry in run if draw.random() < 0.6] for run in journals[owner]]
                if draw.random() < 0.2:
                    del journals[owner]
            self.assertEqual([], wrong_entries(journals, partial=partial))

    def test_a_lie_is_found(self):
        draw = random.Random(61)
        found = 0
        for _ in range(30):
            journals = self.journals(draw)
            owner = draw.choice(sorted(journals))
            journals[owner][0].append((owner, 10 ** 9, "dead", (owner + 1) % 8))
            wrong = wrong_entries(journals)
            found += 1
            self.assertEqual([(owner, 0, len(journals[owner][0]) - 1, "source")], wrong)
            self.assertEqual([min(owner, (owner + 1) % 8)], least_liars(journals))
        self.assertEqual(30, found)


class Liars(Case):
    def journals(self, *pairs, forms=()):
        """For each pair (owner, source) an entry that the source does not hold; an odd entry for each of forms."""
        journals = {}
        for at, (owner, source) in enumerate(pairs):
            journals.setdefault(owner, [[]])[0].append((100 + at, 1, "alive", source))
        for owner in forms:
            journals.setdefault(owner, [[]])[0].append("x")
        return journals

    def test_nobody(self):
        for journals in ({}, {1: []}, {1: [[(1, 1, "alive", 1)]]}):
            self.assertEqual([], least_liars(journals))
            self.assertTrue(explains(journals, []))
            self.assertTrue(explains(journals, [5, 1]))

    def test_one(self):
        self.assertEqual([2], least_liars(self.journals((2, 5))))
        self.assertEqual([2], least_liars(self.journals((5, 2))))
        self.assertEqual([5], least_liars(self.journals(forms=[5])))

    def test_an_owner_that_lied_for_another_reason(self):
        # Seat 5 has lied anyway, so it explains the other entry, too.
        self.assertEqual([5], least_liars(self.journals((5, 2), forms=[5])))
        self.assertEqual([5], least_liars(self.journals((2, 5), forms=[5])))
        self.assertEqual([2, 7], least_liars(self.journals((2, 5), forms=[7])))
        for run in ([(2, 1, "left", 5)], [(5, 1, "dead", 5)], [(1, 2, "alive", None), (1, 1, "alive", None)],
                    [(1, 0, "alive", 5), (2, 1, "alive", None)]):
            self.assertEqual([5], least_liars({5: [run]}))

    def test_entries_that_share_an_owner_or_a_source(self):
        self.assertEqual([4], least_liars(self.journals((4, 1), (4, 2), (4, 3))))
        self.assertEqual([4], least_liars(self.journals((1, 4), (2, 4), (3, 4))))
        self.assertEqual([4], least_liars(self.journals((1, 4), (4, 3))))

    def test_of_several_shortest_lists_the_least(self):
        self.assertEqual([0, 1], least_liars(self.journals((1, 2), (2, 0), (0, 1))))
        self.assertEqual([1, 3], least_liars(self.journals((1, 2), (3, 4))))
        self.assertEqual([0, 2], least_liars(self.journals((0, 1), (1, 2), (2, 3))))
        # The shortest list is not the least one.
        self.assertEqual([5, 6], least_liars(self.journals((0, 5), (1, 5), (2, 6), (3, 6))))

    def test_partial(self):
        journals = self.journals((1, 2), (3, 4))
        self.assertEqual([1], least_liars(journals, partial=(4,)))
        self.assertEqual([], least_liars(journals, partial=[4, 2]))
        self.assertEqual([False, True], [explains(journals, [1], partial=partial) for partial in ((), (4,))])

    def test_twelve_and_thirteen_seats(self):
        twelve = [(2 * at, 2 * at + 1) for at in range(6)]
        self.assertEqual([0, 2, 4, 6, 8, 10], least_liars(self.journals(*twelve)))
        self.assertEqual(list(range(12)), least_liars(self.journals(forms=range(12))))
        self.assert_refused(TooMuch, 12, least_liars, self.journals(forms=range(13)))
        self.assert_refused(TooMuch, 12, least_liars, self.journals(*twelve, forms=[12]))
        self.assert_refused(TooMuch, 12, least_liars, self.journals(*twelve, (0, 13)))
        self.assertEqual([0, 2, 4, 6, 8, 10], least_liars(self.journals(*twelve, (0, 11))))
        # The sources of entries that are wrong by their form do not count.
        journals = self.journals(*twelve)
        journals[0][0].append((1, 1, "gone", 99))
        self.assertEqual([0, 2, 4, 6, 8, 10], least_liars(journals))
        self.assert_refused(TooMuch, 12, least_liars, self.journals(*[(0, at) for at in range(1, 13)]))

    def test_explains_has_no_limit(self):
        many = self.journals(*[(at, at + 1) for at in range(40)])
        self.assertIs(True, explains(many, list(range(1, 41, 2))))
        self.assertIs(True, explains(many, list(range(41))))
        self.assertIs(False, explains(many, list(range(3, 41, 2))))

    def test_explains_with_lists_in_any_order_with_doubles_too_short_and_too_long(self):
        journals = self.journals((1, 2), (3, 4), forms=[7])
        for seats in ([7, 3, 1], [4, 7, 2, 4, 7], [1, 2, 3, 4, 7, 9], [7, 2, 3]):
            self.assertIs(True, explains(journals, seats))
        for seats in ([], [1, 3], [7], [7, 1, 2], [7, 7, 3, 4], [2, 4, 6]):
            self.assertIs(False, explains(journals, seats))

    def test_drawn_journals(self):
        draw = random.Random(62)
        sizes = set()
        for _ in range(500):
            journals = drawn_journals(draw)
            partial = draw.sample(range(4), draw.choice((0, 0, 0, 1)))
            groups, told = liars_by_the_words(wrong_entries(journals, partial=partial), journals)
            self.assertEqual(told, least_liars(journals, partial=partial))
            sizes.add(len(told))
            seats = [draw.randrange(5) for _ in range(draw.randrange(6))]
            self.assertIs(all(group & set(seats) for group in groups), explains(journals, seats, partial=partial))
        self.assertEqual({0, 1, 2, 3, 4}, sizes)

    def test_drawn_graphs(self):
        draw = random.Random(63)
        for _ in range(60):
            pairs = [draw.sample(range(8), 2) for _ in range(draw.randrange(1, 12))]
            journals = self.journals(*pairs, forms=draw.sample(range(8), draw.choice((0, 0, 1))))
            _, told = liars_by_the_words(wrong_entries(journals), journals)
            self.assertEqual(told, least_liars(journals))
            self.assertTrue(explains(journals, told))
