"""Points 21 to 23: the bounds of quick calls, and cases that reach them."""

import random

from livingroll.bounds import loose_bound, quick_bound, short_case, telling_bound, worst_case
from livingroll.setting import Setting
from livingroll.spread import Spread, is_fair, rounds_to_all
from tests.helpers import Case
from tests.test_spread import Told

SETTINGS = [Setting(bits, patience, 4) for bits in range(1, 9) for patience in range(1, 7)]


def fair_rows(draw, told, count):
    """Drawn rows that lose as much as a fair schedule may, or less."""
    failed = {}
    rows = []
    chance = draw.choice((0.3, 0.7, 1))
    for index in range(count):
        pairs = [(seat, told.target(seat, index)) for seat in told.held]
        row = []
        for pair in pairs:
            lost = failed.get(pair, 0) < told.setting.patience - 1 and draw.random() < chance
            failed[pair] = failed.get(pair, 0) + 1 if lost else 0
            if lost:
                row.append(pair[0])
        rows.append(row)
    return rows


class Bounds(Case):
    def test_by_hand(self):
        self.assertEqual([1, 3, 6], [quick_bound(Setting(1, patience, 4)) for patience in (1, 3, 6)])
        self.assertEqual([3, 6, 18], [quick_bound(Setting(2, patience, 4)) for patience in (1, 2, 6)])
        self.assertEqual([5, 11, 35], [quick_bound(Setting(3, patience, 4)) for patience in (1, 2, 6)])
        self.assertEqual([15, 95], [quick_bound(Setting(8, patience, 4)) for patience in (1, 6)])
        self.assertEqual([1, 6, 9, 18, 384], [loose_bound(Setting(*row, 4)) for row in
                                              ((1, 1), (1, 6), (3, 1), (3, 2), (8, 6))])
        self.assertEqual([1, 6, 3, 6, 48], [telling_bound(Setting(*row, 4)) for row in
                                            ((1, 1), (1, 6), (3, 1), (3, 2), (8, 6))])

    def test_each_setting(self):
        for setting in SETTINGS:
            bits, patience = setting.bits, setting.patience
            quick = {1: patience, 2: 3 * patience}.get(bits, 2 * bits * patience - 1)
            told = [quick_bound(setting), loose_bound(setting), telling_bound(setting)]
            self.assertEqual([quick, bits * bits * patience, bits * patience], told)

    def test_room_grace_and_helpers_do_not_count(self):
        for bound in (quick_bound, loose_bound, telling_bound):
            self.assertEqual(bound(Setting(4, 3, 4)), bound(Setting(4, 3, 64, grace=200, helpers=0)))


class Cases(Case):
    def assert_case(self, setting, case, most):
        """A case has the kinds of values that the interface tells, and is a fair schedule of the ring."""
        self.assertIs(tuple, case.__class__)
        held, origin, start, lost = case
        self.assertEqual([list, int, int, list], [part.__class__ for part in case])
        self.assertIn(origin, held)
        self.assertEqual(len(held), len(set(held)))
        self.assertLessEqual(set(held), set(range(setting.seats)))
        self.assertGreaterEqual(start, 0)
        self.assertLessEqual(len(lost), most)
        for row in lost:
            self.assertIs(list, row.__class__)
            self.assertEqual(len(row), len(set(row)))
            self.assertLessEqual(set(row), set(held))
        self.assertIs(True, is_fair(setting, held, start, lost))
        self.assertIs(True, Told(setting, held, [origin], start).fair(lost))

    def test_worst_cases(self):
        for setting in SETTINGS:
            with self.subTest(setting=str(setting)):
                case = worst_case(setting)
                bound = quick_bound(setting)
                self.assert_case(setting, case, bound)
                held, origin, start, lost = case
                self.assertEqual(bound, rounds_to_all(setting, held, [origin], start, lost))
                self.assertEqual(bound, rounds_to_all(setting, held, [origin], start, lost, tellings=setting.cycle))

    def test_short_cases(self):
        for setting in SETTINGS:
            with self.subTest(setting=str(setting)):
                case = short_case(setting)
                self.assert_case(setting, case, setting.cycle)
                held, origin, start, lost = case
                few = setting.cycle - 1
                self.assertIsNone(rounds_to_all(setting, held, [origin], start, lost, tellings=few))
                self.assertIsNotNone(rounds_to_all(setting, held, [origin], start, lost, tellings=few + 1))

    def test_cases_by_the_words_of_point_19(self):
        for bits, patience in ((1, 1), (1, 3), (2, 1), (2, 3), (3, 1), (3, 2), (4, 3)):
            setting = Setting(bits, patience, 4)
            held, origin, start, lost = worst_case(setting)
            told = Told(setting, held, [origin], start)
            for index in range(quick_bound(setting)):
                self.assertLess(len(told.since), len(held))
                told.step(lost[index] if index < len(lost) else ())
            self.assertEqual(len(held), len(told.since))

    def test_cases_are_new_each_time(self):
        for made in (worst_case, short_case):
            setting = Setting(3, 2, 4)
            before = made(setting)
            again = made(setting)
            again[0].clear()
            for row in again[3]:
                row.append(99)
            self.assertEqual(before, made(setting))
            rows = made(setting)[3]
            self.assertEqual(len(rows), len({id(row) for row in rows}))


class Facts(Case):
    """Point 21, for drawn schedules that lose as much as they may."""

    def drawn_case(self, draw):
        setting = Setting(draw.randrange(1, 5), draw.randrange(1, 4), 4)
        held = draw.sample(range(setting.seats), draw.randrange(1, min(setting.seats, 10) + 1))
        return setting, held, draw.choice(held), draw.randrange(2 * setting.cycle)

    def test_without_shifts(self):
        draw = random.Random(23)
        for _ in range(400):
            setting, held, origin, start = self.drawn_case(draw)
            lost = fair_rows(draw, Told(setting, held, [origin], start), quick_bound(setting))
            self.assertIs(True, is_fair(setting, held, start, lost))
            for tellings in (setting.cycle, None):
                rounds = rounds_to_all(setting, held, [origin], start, lost, tellings=tellings)
                self.assertLessEqual(rounds, quick_bound(setting))

    def test_with_shifts(self):
        draw = random.Random(24)
        for _ in range(400):
            setting, held, origin, start = self.drawn_case(draw)
            shifts = {seat: draw.randrange(setting.cycle) for seat in held}
            lost = fair_rows(draw, Told(setting, held, [origin], start, None, shifts), loose_bound(setting))
            self.assertIs(True, is_fair(setting, held, start, lost, shifts=shifts))
            rounds = rounds_to_all(setting, held, [origin], start, lost, tellings=setting.cycle, shifts=shifts)
            self.assertLessEqual(rounds, loose_bound(setting))

    def test_the_spread_of_a_worst_case_ends_in_its_last_round(self):
        setting = Setting(4, 2, 4)
        held, origin, start, lost = worst_case(setting)
        spread = Spread(setting, held, [origin], start)
        rows = [spread.step(lost[index] if index < len(lost) else ()) for index in range(quick_bound(setting))]
        self.assertNotEqual([], rows[-1])
        self.assertIs(True, spread.done)
