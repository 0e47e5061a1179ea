"""Points 19 and 20: how news spreads, and schedules of losses."""

import random

from livingroll.plan import target
from livingroll.setting import Setting
from livingroll.spread import Spread, is_fair, rounds_to_all
from tests.helpers import Case

SETTING = Setting(3, 1, 4)
HELD = [0, 3, 5, 7]
MANY = 10 ** 60


class Told:
    """A spread by the words of point 19, with the targets of point 18."""

    def __init__(self, setting, held, origins, start, tellings=None, shifts=None):
        self.setting, self.held, self.start, self.tellings, self.shifts = setting, held, start, tellings, shifts or {}
        self.since = {seat: 0 for seat in origins}
        self.left = {seat: tellings for seat in held}
        self.rounds = 0

    def target(self, seat, index):
        return target(self.setting, seat, self.start + index + self.shifts.get(seat, 0), self.held)

    def step(self, lost):
        new = set()
        for seat in list(self.since):
            called = self.target(seat, self.rounds)
            if called is not None and self.left[seat] != 0:
                self.left[seat] = None if self.tellings is None else self.left[seat] - 1
                if seat not in lost and called not in self.since:
                    new.add(called)
        self.rounds += 1
        self.since.update({seat: self.rounds for seat in new})
        return sorted(new)

    def fair(self, lost):
        tries = {}
        for index, row in enumerate(lost):
            for seat in self.held:
                called = self.target(seat, index)
                if called is not None:
                    tries.setdefault((seat, called), []).append(seat in row)
        patience = self.setting.patience
        return not any([True] * patience == row[at:at + patience] for row in tries.values() for at in range(len(row)))


def drawn(draw):
    """A drawn setting with the arguments of a spread."""
    setting = Setting(draw.randrange(1, 6), draw.randrange(1, 4), 4)
    held = draw.sample(range(setting.seats), draw.randrange(1, min(setting.seats, 9) + 1))
    origins = draw.sample(held, draw.randrange(1, len(held) + 1) if draw.random() < 0.3 else 1)
    shifts = {seat: draw.choice((1, 2, 7, MANY)) for seat in held if draw.random() < 0.3}
    return setting, held, origins, draw.choice((0, 1, 2, 5, MANY + 1)), draw.choice((shifts, None))


def drawn_rows(draw, held, count, chance=0.4):
    return [[seat for seat in draw.sample(held, len(held)) if draw.random() < chance] for _ in range(count)]


class Beginning(Case):
    def test_the_origins_know_it(self):
        for origins in ([3], [7, 0], [5, 3, 0]):
            spread = Spread(SETTING, HELD, origins, 0)
            self.assertEqual(sorted(origins), spread.known())
            self.assertEqual([0 if seat in origins else None for seat in range(8)], [spread.since(seat) for seat in range(8)])
            self.assertEqual([0, False, False], [spread.rounds, spread.done, spread.stuck])

    def test_all_are_origins(self):
        spread = Spread(SETTING, HELD, [7, 0, 3, 5], 0)
        self.assertIs(True, spread.done)
        self.assertEqual([], spread.step())
        self.assertEqual([1, HELD], [spread.rounds, spread.known()])

    def test_one_seat(self):
        for tellings, stuck in ((None, False), (0, True), (1, False)):
            spread = Spread(SETTING, [4], [4], 0, tellings=tellings)
            for rounds in range(5):
                self.assertEqual([True, stuck, rounds], [spread.done, spread.stuck, spread.rounds])
                self.assertEqual([], spread.step())

    def test_any_order_and_lists_that_stay(self):
        draw = random.Random(19)
        told = rows_of(Spread(SETTING, HELD, [3, 7], 1), 4)
        for _ in range(20):
            held, origins, shifts = draw.sample(HELD, 4), draw.sample([3, 7], 2), {}
            given = (list(held), list(origins))
            spread = Spread(SETTING, held, origins, 1, shifts=shifts)
            self.assertEqual(told, rows_of(spread, 4))
            self.assertEqual(given, (held, origins))
            self.assertEqual({}, shifts)

    def test_what_is_passed_is_copied(self):
        held, origins, shifts = list(HELD), [3], {3: 1}
        spread = Spread(SETTING, held, origins, 0, shifts=shifts)
        held.clear()
        origins.append(0)
        shifts[3] = 0
        self.assertEqual([[5], [7], [0]], rows_of(spread, 3))
        self.assertIs(True, spread.done)


def rows_of(spread, count):
    return [spread.step() for _ in range(count)]


class Steps(Case):
    def test_by_hand(self):
        # The targets of the phases 2, 1 and 0: of 0 they are 5, 3, 3; of 3: 7, 5, 5; of 5: 3, 7, 7; of 7: 3, 3, 0.
        spread = Spread(SETTING, HELD, [3], 0)
        self.assertEqual([7], spread.step())
        self.assertEqual([1, [3, 7], False], [spread.rounds, spread.known(), spread.done])
        self.assertEqual([5], spread.step())
        self.assertEqual([0], spread.step())
        self.assertEqual([3, HELD, True, False], [spread.rounds, spread.known(), spread.done, spread.stuck])
        self.assertEqual([3, None, None, 0, None, 2, None, 1], [spread.since(seat) for seat in range(8)])

    def test_several_at_once_ascend(self):
        spread = Spread(SETTING, list(range(8)), [7, 6, 5, 4], 0)
        self.assertEqual([0, 1, 2, 3], spread.step())

    def test_who_is_told_in_a_round_tells_in_the_next_one(self):
        spread = Spread(Setting(2, 1, 4), [0, 1, 2, 3], [0], 1)
        self.assertEqual([[1], [2, 3]], rows_of(spread, 2))

    def test_two_tell_the_same_seat(self):
        spread = Spread(SETTING, [0, 1, 5], [0, 1], 0)
        self.assertEqual([5], spread.step())
        spread = Spread(SETTING, [0, 1, 5], [0, 1], 0)
        self.assertEqual([5], spread.step([0]))
        spread = Spread(SETTING, [0, 1, 5], [0, 1], 0)
        self.assertEqual([], spread.step([1, 0]))

    def test_lost_as_a_list_and_as_a_tuple(self):
        for kind in (list, tuple):
            spread = Spread(SETTING, HELD, [3], 0)
            given = kind([3])
            self.assertEqual([], spread.step(given))
            self.assertEqual(kind([3]), given)
            self.assertEqual([1, [3]], [spread.rounds, spread.known()])
            self.assertEqual([5], spread.step(kind([])))

    def test_lost_callers_that_know_nothing_or_have_no_target(self):
        spread = Spread(SETTING, HELD, [3], 0)
        self.assertEqual([7], spread.step([0, 5, 7, 1, 2]))
        spread = Spread(SETTING, [0, 1], [0], 0)
        self.assertEqual([[], [], [1]], [spread.step([0]), spread.step([0]), spread.step([1])])

    def test_returned_lists_may_be_changed(self):
        spread = Spread(SETTING, HELD, [3], 0)
        spread.step().append(4)
        spread.known().clear()
        self.assertEqual([3, 7], spread.known())
        self.assertEqual([5], spread.step())

    def test_a_start_of_many_digits(self):
        for start in (0, 1, 2):
            told = rows_of(Spread(SETTING, HELD, [3], start), 6)
            self.assertEqual(told, rows_of(Spread(SETTING, HELD, [3], 3 * MANY + start), 6))
        self.assertNotEqual(rows_of(Spread(SETTING, HELD, [3], 0), 6), rows_of(Spread(SETTING, HELD, [3], 1), 6))

    def test_against_the_words(self):
        draw = random.Random(20)
        for _ in range(300):
            setting, held, origins, start, shifts = drawn(draw)
            tellings = draw.choice((None, None, 0, 1, 2, setting.cycle))
            spread = Spread(setting, held, origins, start, tellings=tellings, shifts=shifts)
            told = Told(setting, held, origins, start, tellings, shifts)
            for lost in drawn_rows(draw, held, 2 * setting.cycle):
                self.assertEqual(told.step(lost), spread.step(lost))
                self.assertEqual(sorted(told.since), spread.known())
                self.assertEqual([told.since.get(seat) for seat in held], [spread.since(seat) for seat in held])
                self.assertIs(len(told.since) == len(held), spread.done)
                self.assertIs(all(told.left[seat] == 0 for seat in told.since), spread.stuck)


class Tellings(Case):
    def test_none_at_all(self):
        spread = Spread(SETTING, HELD, [3], 0, tellings=0)
        self.assertEqual([True, False], [spread.stuck, spread.done])
        self.assertEqual([[], [], []], rows_of(spread, 3))
        self.assertEqual([3, [3]], [spread.rounds, spread.known()])

    def test_one_each(self):
        spread = Spread(SETTING, HELD, [3], 0, tellings=1)
        self.assertEqual([7], spread.step())
        self.assertIs(False, spread.stuck)
        # 7 calls 3 in the phase 1; 3 knows it, and the telling is used up.
        self.assertEqual([], spread.step())
        self.assertEqual([True, False, [3, 7]], [spread.stuck, spread.done, spread.known()])
        self.assertEqual([], spread.step())

    def test_a_lost_try_counts(self):
        spread = Spread(SETTING, HELD, [3], 0, tellings=1)
        self.assertEqual([], spread.step([3]))
        self.assertIs(True, spread.stuck)
        spread = Spread(SETTING, HELD, [3], 0, tellings=2)
        self.assertEqual([[], False], [spread.step([3]), spread.stuck])
        self.assertEqual([5], spread.step())

    def test_a_telling_to_a_seat_that_knows_it_counts(self):
        spread = Spread(SETTING, HELD, [3, 7], 0, tellings=1)
        # 3 calls 7, 7 calls 3.
        self.assertEqual([[], True], [spread.step(), spread.stuck])

    def test_a_seat_without_a_target_keeps_its_tellings(self):
        spread = Spread(SETTING, [0, 1], [0], 0, tellings=1)
        self.assertEqual([[], []], rows_of(spread, 2))
        self.assertIs(False, spread.stuck)
        self.assertEqual([1], spread.step())
        self.assertEqual([True, False], [spread.done, spread.stuck])

    def test_tellings_are_counted_for_each_seat(self):
        told = [[1], [2, 3], []]
        self.assertEqual(told, rows_of(Spread(Setting(2, 1, 4), [0, 1, 2, 3], [0], 1, tellings=2), 3))
        self.assertEqual([[1], [3], []], rows_of(Spread(Setting(2, 1, 4), [0, 1, 2, 3], [0], 1, tellings=1), 3))

    def test_done_and_stuck(self):
        spread = Spread(Setting(1, 1, 4), [0, 1], [0], 0, tellings=1)
        self.assertEqual([[1], True, False], [spread.step(), spread.done, spread.stuck])
        self.assertEqual([[], True, True], [spread.step(), spread.done, spread.stuck])


class Shifts(Case):
    def test_of_some_seats(self):
        self.assertEqual([[5], [7], [0]], rows_of(Spread(SETTING, HELD, [3], 0, shifts={3: 1}), 3))
        self.assertEqual([[5], [3], [7]], rows_of(Spread(SETTING, HELD, [0], 0, shifts={5: 2}), 3))
        self.assertEqual([[7], [5], [0]], rows_of(Spread(SETTING, HELD, [3], 0, shifts={0: 1}), 3))

    def test_none_and_an_empty_dict(self):
        told = rows_of(Spread(SETTING, HELD, [3], 0), 4)
        self.assertEqual(told, rows_of(Spread(SETTING, HELD, [3], 0, shifts=None), 4))
        self.assertEqual(told, rows_of(Spread(SETTING, HELD, [3], 0, shifts={}), 4))
        self.assertEqual(told, rows_of(Spread(SETTING, HELD, [3], 0, shifts={3: 0, 5: 3 * MANY}), 4))

    def test_they_add_to_the_start(self):
        shifts = {seat: 2 for seat in HELD}
        for start in (0, 1, MANY):
            told = rows_of(Spread(SETTING, HELD, [3], start + 2), 5)
            self.assertEqual(told, rows_of(Spread(SETTING, HELD, [3], start, shifts=shifts), 5))


class Fairness(Case):
    def test_patience_one(self):
        self.assertIs(True, is_fair(SETTING, HELD, 0, []))
        self.assertIs(True, is_fair(SETTING, HELD, 0, [[], [], []]))
        self.assertIs(False, is_fair(SETTING, HELD, 0, [[], [5], []]))

    def test_patience_of_more(self):
        setting = Setting(3, 2, 4)
        # 0 calls 5 at the beats 0 and 1, and 3 at the beats 2 to 5.
        self.assertIs(False, is_fair(setting, HELD, 0, [[0], [0]]))
        self.assertIs(True, is_fair(setting, HELD, 0, [[0], []]))
        self.assertIs(True, is_fair(setting, HELD, 0, [[], [0], [0], [], [0], []]))
        self.assertIs(True, is_fair(setting, HELD, 0, [[0], [5]]))
        self.assertIs(True, is_fair(setting, HELD, 1, [[0], [0]]))

    def test_tries_of_one_pair_in_different_phases_stand_in_one_row(self):
        setting = Setting(3, 2, 4)
        self.assertIs(False, is_fair(setting, HELD, 3, [[0], [0]]))
        self.assertIs(True, is_fair(setting, HELD, 3, [[0], [3], [0]]))
        # Two seats call each other in each phase; other tries between are none of theirs.
        setting = Setting(2, 3, 4)
        self.assertIs(False, is_fair(setting, [0, 2], 2, [[0], [0], [0]]))
        self.assertIs(True, is_fair(setting, [0, 2], 2, [[0], [0], [2], [0], [0]]))
        # 0 calls 5 at the beats 1 and 6; the tries to 3 between belong to another row.
        setting = Setting(3, 2, 4)
        self.assertIs(False, is_fair(setting, HELD, 1, [[0], [], [], [], [], [0]]))

    def test_callers_that_do_not_know_the_news_count(self):
        setting = Setting(3, 2, 4)
        self.assertIs(False, is_fair(setting, HELD, 0, [[7], [7]]))
        self.assertEqual(3, rounds_to_all(setting, HELD, [0], 0, [[7], [7]]))

    def test_callers_without_a_target_make_no_try(self):
        setting = Setting(3, 2, 4)
        # 0 and 1 have each other as target in the phase 0 alone, 1 has 0 in all.
        self.assertIs(True, is_fair(setting, [0, 1], 0, [[0], [0], [0], [0]]))
        self.assertIs(False, is_fair(setting, [0, 1], 0, [[0], [0], [0], [0], [0], [0]]))
        self.assertIs(True, is_fair(setting, [0, 1], 0, [[0], [0], [0], [0], [0], []]))
        self.assertIs(True, is_fair(setting, [6], 0, [[6]] * 12))
        self.assertIs(True, is_fair(setting, [], 0, [[]] * 12))
        self.assertIs(True, is_fair(setting, [0, 1], 0, [[4, 2]] * 12))

    def test_shifts(self):
        setting = Setting(3, 2, 4)
        self.assertIs(True, is_fair(setting, HELD, 0, [[0], [0]], shifts={0: 1}))
        self.assertIs(False, is_fair(setting, HELD, 0, [[0], [0]], shifts={3: 1}))
        self.assertIs(False, is_fair(setting, HELD, 1, [[0], [0]], shifts={0: 5}))
        for shifts in (None, {}, {0: 6 * MANY}):
            self.assertIs(True, is_fair(setting, HELD, 1, [[0], [0]], shifts=shifts))

    def test_against_the_words(self):
        draw = random.Random(21)
        found = {True: 0, False: 0}
        for _ in range(600):
            setting, held, origins, start, shifts = drawn(draw)
            lost = drawn_rows(draw, held, draw.randrange(12), draw.choice((0.1, 0.4)))
            before = [list(row) for row in lost]
            told = Told(setting, held, origins, start, None, shifts).fair(lost)
            self.assertIs(told, is_fair(setting, held, start, lost, shifts=shifts))
            self.assertEqual(before, lost)
            found[told] += 1
        self.assertGreater(min(found.values()), 100)


class RoundsToAll(Case):
    def test_no_round_is_needed(self):
        self.assertEqual(0, rounds_to_all(SETTING, HELD, [5, 3, 0, 7], 1, [HELD]))
        self.assertEqual(0, rounds_to_all(SETTING, [2], [2], 1, [], tellings=0))

    def test_within_and_behind_the_rows(self):
        self.assertEqual(5, rounds_to_all(SETTING, HELD, [3], 1, []))
        self.assertEqual(3, rounds_to_all(SETTING, HELD, [3], 0, []))
        self.assertEqual(3, rounds_to_all(SETTING, HELD, [3], 0, [[], [], [], [3], [0, 7]]))
        self.assertEqual(3, rounds_to_all(SETTING, HELD, [3], 0, [[0], [5]]))
        self.assertEqual(9, rounds_to_all(SETTING, HELD, [3], 0, [HELD] * 4))

    def test_never(self):
        self.assertIsNone(rounds_to_all(SETTING, HELD, [3], 0, [], tellings=0))
        self.assertIsNone(rounds_to_all(SETTING, HELD, [3], 0, [], tellings=1))
        self.assertIsNone(rounds_to_all(SETTING, HELD, [3], 0, [[3], [3]], tellings=2))
        self.assertIsNone(rounds_to_all(SETTING, HELD, [3], 0, [[]] * 50, tellings=1))

    def test_rows_in_which_nobody_has_a_target(self):
        # In the phases 2 and 1 seat 0 has no target, so its telling waits.
        self.assertEqual(3, rounds_to_all(SETTING, [0, 1], [0], 0, [[0], [0]], tellings=1))
        self.assertEqual(6, rounds_to_all(SETTING, [0, 1], [0], 0, [[], [], [0]], tellings=2))
        self.assertIsNone(rounds_to_all(SETTING, [0, 1], [0], 0, [[], [], [0]], tellings=1))

    def test_shifts(self):
        self.assertEqual(4, rounds_to_all(SETTING, HELD, [3], 0, [], shifts={7: 2}))
        self.assertEqual(3, rounds_to_all(SETTING, HELD, [3], 0, [], shifts={}))

    def test_against_the_words(self):
        draw = random.Random(22)
        for _ in range(300):
            setting, held, origins, start, shifts = drawn(draw)
            tellings = draw.choice((None, 0, 1, 2, setting.cycle))
            lost = drawn_rows(draw, held, draw.randrange(8))
            told = Told(setting, held, origins, start, tellings, shifts)
            for index in range(20 * setting.cycle):
                if len(told.since) == len(held):
                    break
                told.step(lost[index] if index < len(lost) else ())
            answer = told.rounds if len(told.since) == len(held) else None
            self.assertEqual(answer, rounds_to_all(setting, held, origins, start, lost, tellings=tellings, shifts=shifts))
