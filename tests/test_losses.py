"""Point 45: which letters are lost."""

import random
import unittest

from livingroll.losses import DrawnLosses, FairLosses, Losses

CALL = (1, 2, "quick")


def answers(losses, count, call=CALL):
    return [losses(*call) for _ in range(count)]


class Nothing(unittest.TestCase):
    def test_it_loses_nothing(self):
        losses = Losses()
        self.assertEqual(0, losses.asked)
        for asked, call in enumerate([CALL, (2, 1, "slow"), (0, 7, "probe"), CALL], start=1):
            self.assertIsNone(losses(*call))
            self.assertEqual(asked, losses.asked)

    def test_the_classes_below_one_another(self):
        self.assertEqual((DrawnLosses,), FairLosses.__bases__)
        self.assertEqual((Losses,), DrawnLosses.__bases__)
        self.assertIsInstance(FairLosses([], 1), Losses)


class Drawn(unittest.TestCase):
    def test_no_digits(self):
        losses = DrawnLosses([])
        self.assertEqual([None] * 5, answers(losses, 5))
        self.assertEqual(5, losses.asked)

    def test_one_digit(self):
        self.assertEqual([None] * 3, answers(DrawnLosses([0]), 3))
        self.assertEqual([0] * 3, answers(DrawnLosses([1]), 3))
        self.assertEqual([6] * 3, answers(DrawnLosses([7]), 3))

    def test_digits_that_are_used_up_begin_again(self):
        losses = DrawnLosses([0, 1, 2])
        self.assertEqual([None, 0, 1, None, 0, 1, None], answers(losses, 7))
        self.assertEqual(7, losses.asked)

    def test_digits_of_any_size(self):
        self.assertEqual([10 ** 30 - 1, None, 99], answers(DrawnLosses([10 ** 30, 0, 100]), 3))

    def test_each_call_uses_a_digit_whoever_calls(self):
        losses = DrawnLosses([1, 2, 3, 4])
        calls = [CALL, (2, 1, "quick"), (1, 2, "slow"), (1, 3, "probe")]
        self.assertEqual([0, 1, 2, 3], [losses(*call) for call in calls])

    def test_the_list_is_copied(self):
        for losses in (lambda digits: DrawnLosses(digits), lambda digits: FairLosses(digits, 6)):
            digits = [1, 2]
            made = losses(digits)
            digits[0] = 0
            digits.append(9)
            self.assertEqual([0, 1, 0], answers(made, 3))
            self.assertEqual([0, 2, 9], digits)


class Fair(unittest.TestCase):
    def test_each_patience(self):
        for patience in range(1, 7):
            losses = FairLosses([1], patience)
            told = [None if at % patience == 0 else 0 for at in range(1, 20)]
            self.assertEqual(told, answers(losses, 19))
            self.assertEqual(19, losses.asked)

    def test_patience_one_loses_nothing(self):
        self.assertEqual([None] * 9, answers(FairLosses([1, 2, 3], 1), 9))

    def test_no_digits_and_zeros(self):
        for digits in ([], [0], [0, 0]):
            losses = FairLosses(digits, 3)
            self.assertEqual([None] * 5, answers(losses, 5))
            self.assertEqual(5, losses.asked)

    def test_an_answer_of_none_between(self):
        self.assertEqual([0, 0, None, 0, 0, None], answers(FairLosses([1, 1, 0], 4), 6))
        # The third one would have been lost; its digit is used up nevertheless.
        self.assertEqual([0, 1, None, 3, 4, None], answers(FairLosses([1, 2, 3, 4, 5, 6], 3), 6))
        self.assertEqual([0, None, 2, 3, None, 1, 2], answers(FairLosses([1, 0, 3, 4, 5, 2, 3], 3), 7))

    def test_other_calls_between(self):
        others = [(2, 1, "quick"), (1, 2, "slow"), (1, 2, "probe"), (1, 3, "quick")]
        losses = FairLosses([1], 3)
        self.assertEqual([0, 0], answers(losses, 2))
        for other in others:
            self.assertEqual([0, 0, None], answers(losses, 3, other))
        self.assertIsNone(losses(*CALL))
        self.assertEqual(15, losses.asked)

    def test_answers_of_none_to_others_do_not_count(self):
        losses = FairLosses([1, 0], 3)
        told = [(losses(*CALL), losses(2, 1, "quick")) for _ in range(6)]
        self.assertEqual([(0, None), (0, None), (None, None)] * 2, told)

    def test_drawn_digits(self):
        draw = random.Random(45)
        for _ in range(60):
            patience = draw.randrange(1, 7)
            digits = [draw.randrange(4) for _ in range(draw.randrange(12))]
            losses, plain = FairLosses(digits, patience), DrawnLosses(digits)
            given = {}
            for asked in range(1, 80):
                call = (draw.randrange(2), 2 + draw.randrange(2), draw.choice(("quick", "slow", "probe")))
                past = given.setdefault(call, [])
                told, drawn = losses(*call), plain(*call)
                last = past[len(past) - (patience - 1):] if len(past) >= patience - 1 else [None]
                self.assertEqual(None if None not in last else drawn, told)
                self.assertEqual(asked, losses.asked)
                past.append(told)
