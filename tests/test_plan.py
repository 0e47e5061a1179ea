"""Point 18: the plan of quick calls."""

import inspect
import random

from livingroll.plan import fingers, phase_of, plan_rounds, target
from livingroll.setting import Setting
from tests.helpers import Case

MANY = 10 ** 60


def told_target(setting, seat, phase, held):
    """The target by the words of point 18."""
    way = {other: (other - seat) % 2 ** setting.bits for other in held if other != seat}
    far = [other for other in way if way[other] >= 2 ** phase]
    return min(far, key=way.get) if far else None


class Phases(Case):
    def test_blocks_of_patience_beats(self):
        self.assertEqual([2, 1, 0, 2, 1, 0, 2], [phase_of(Setting(3, 1, 4), beat) for beat in range(7)])
        self.assertEqual([2, 2, 1, 1, 0, 0, 2, 2, 1], [phase_of(Setting(3, 2, 4), beat) for beat in range(9)])
        self.assertEqual([1, 1, 1, 0, 0, 0, 1], [phase_of(Setting(2, 3, 4), beat) for beat in range(7)])

    def test_each_phase_and_the_return_to_the_top_one(self):
        for bits in range(1, 9):
            for patience in range(1, 7):
                setting = Setting(bits, patience, 4)
                one_pass = [phase for phase in range(bits - 1, -1, -1) for _ in range(patience)]
                beats = range(2 * bits * patience)
                self.assertEqual(one_pass * 2, [phase_of(setting, beat) for beat in beats])

    def test_beats_of_many_digits(self):
        for bits, patience in ((1, 1), (3, 2), (8, 6), (5, 3)):
            setting = Setting(bits, patience, 4)
            start = MANY * bits * patience
            for beat in range(bits * patience):
                self.assertEqual(phase_of(setting, beat), phase_of(setting, start + beat))


class Targets(Case):
    def test_by_hand(self):
        setting = Setting(3, 1, 4)
        self.assertEqual([6, 6, 2], [target(setting, 1, beat, [1, 2, 6]) for beat in range(3)])
        self.assertEqual([2, 1, 1], [target(setting, 6, beat, [1, 2, 6]) for beat in range(3)])
        self.assertEqual([6, 6, 6], [target(setting, 2, beat, [1, 2, 6]) for beat in range(3)])
        self.assertEqual([6, 6, 2], fingers(setting, 1, [1, 2, 6]))
        self.assertEqual([2, 1, 1], fingers(setting, 6, [1, 2, 6]))
        self.assertEqual([None, 1, 1], fingers(setting, 6, [1, 6]))

    def test_the_offset_is_reached_or_passed(self):
        setting = Setting(3, 1, 4)
        self.assertEqual([None, 3, 3], fingers(setting, 0, [0, 3]))
        self.assertEqual([4, 4, 4], fingers(setting, 0, [0, 4]))
        self.assertEqual([None, None, 1], fingers(setting, 0, [0, 1]))
        self.assertEqual([7, 7, 7], fingers(setting, 0, [0, 7]))
        self.assertEqual([5, 3, 1], fingers(setting, 0, [0, 1, 3, 5]))

    def test_each_setting_against_the_words(self):
        draw = random.Random(18)
        for bits in range(1, 9):
            for patience in (1, 2, 5):
                setting = Setting(bits, patience, 4)
                for _ in range(12):
                    held = draw.sample(range(2 ** bits), draw.randrange(min(2 ** bits, 12) + 1))
                    seat = draw.randrange(2 ** bits)
                    told = [told_target(setting, seat, phase, held) for phase in range(bits - 1, -1, -1)]
                    self.assertEqual(told, fingers(setting, seat, held))
                    start = draw.choice((0, 7, MANY)) * bits * patience
                    beats = range(start, start + bits * patience)
                    spread = [told_target(setting, seat, phase_of(setting, beat), held) for beat in beats]
                    self.assertEqual(spread, [target(setting, seat, beat, held) for beat in beats])

    def test_two_seats(self):
        setting = Setting(1, 3, 4)
        for beat in range(7):
            self.assertEqual([1, 0], [target(setting, seat, beat, [0, 1]) for seat in (0, 1)])
        self.assertEqual([1], fingers(setting, 0, [0, 1]))

    def test_a_full_ring_of_eight_bits(self):
        setting = Setting(8, 1, 4)
        held = list(range(256))
        for seat in (0, 1, 130, 255):
            told = [(seat + 2 ** phase) % 256 for phase in range(7, -1, -1)]
            self.assertEqual(told, fingers(setting, seat, held))
            self.assertEqual(told, [target(setting, seat, beat, held) for beat in range(8)])

    def test_a_seat_that_is_not_held(self):
        setting = Setting(3, 1, 4)
        self.assertEqual([7, 5, 5], fingers(setting, 3, [5, 7, 2]))
        self.assertEqual([2, 2, 2], [target(setting, 3, beat, [2]) for beat in range(3)])
        self.assertEqual(fingers(setting, 3, [5, 7, 2]), fingers(setting, 3, [5, 7, 2, 3]))

    def test_nobody_else_is_held(self):
        for bits in (1, 3, 8):
            setting = Setting(bits, 2, 4)
            for held in ([], [1]):
                self.assertEqual([None] * bits, fingers(setting, 1, held))
                self.assertEqual([None] * bits, [target(setting, 1, 2 * block, held) for block in range(bits)])

    def test_held_in_any_order(self):
        setting = Setting(4, 1, 4)
        draw = random.Random(4)
        held = [0, 3, 4, 9, 12, 15]
        told = [fingers(setting, seat, held) for seat in range(16)]
        rounds = list(plan_rounds(setting, held, 0, 4))
        for _ in range(20):
            draw.shuffle(held)
            before = list(held)
            self.assertEqual(told, [fingers(setting, seat, held) for seat in range(16)])
            self.assertEqual([row[1] for row in told], [target(setting, seat, 1, held) for seat in range(16)])
            self.assertEqual(rounds, list(plan_rounds(setting, held, 0, 4)))
            self.assertEqual(before, held)

    def test_fingers_are_a_new_list(self):
        setting = Setting(3, 1, 4)
        held = [1, 2, 6]
        fingers(setting, 1, held).clear()
        self.assertEqual([6, 6, 2], fingers(setting, 1, held))
        self.assertEqual([1, 2, 6], held)


class Rounds(Case):
    def test_it_is_a_generator(self):
        self.assertTrue(inspect.isgeneratorfunction(plan_rounds))

    def test_by_hand(self):
        setting = Setting(3, 1, 4)
        rounds = list(plan_rounds(setting, [6, 1, 2], 0, 3))
        self.assertEqual([[(1, 6), (2, 6), (6, 2)], [(1, 6), (2, 6), (6, 1)], [(1, 2), (2, 6), (6, 1)]], rounds)

    def test_seats_without_a_target_are_left_out(self):
        setting = Setting(2, 2, 4)
        self.assertEqual([[(1, 0)], [(0, 1), (1, 0)]], list(plan_rounds(setting, [1, 0], 1, 2)))
        self.assertEqual([[], [], []], list(plan_rounds(setting, [3], 0, 3)))
        self.assertEqual([[], []], list(plan_rounds(setting, [], 5, 2)))

    def test_no_rounds(self):
        self.assertEqual([], list(plan_rounds(Setting(3, 1, 4), [1, 2, 6], 4, 0)))

    def test_many_rounds_and_many_digits(self):
        setting = Setting(3, 2, 4)
        held = [5, 0, 6, 1]
        for start in (0, 1, 4, 5, 6 * MANY, 6 * MANY + 1):
            for count in (1, 5, 6, 7, 13):
                told = [
                    [(seat, told_target(setting, seat, phase_of(setting, beat), held)) for seat in (0, 1, 5, 6)]
                    for beat in range(start, start + count)
                ]
                told = [[pair for pair in row if pair[1] is not None] for row in told]
                self.assertEqual(told, list(plan_rounds(setting, held, start, count)))

    def test_lists_stay_and_rows_are_new(self):
        setting = Setting(3, 1, 4)
        held = [6, 1, 2]
        rows = []
        for row in plan_rounds(setting, held, 0, 6):
            rows.append(list(row))
            row.clear()
        self.assertEqual([6, 1, 2], held)
        self.assertEqual(rows, list(plan_rounds(setting, held, 0, 6)))
