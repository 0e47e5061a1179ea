"""Points 40 to 44 over drawn histories, against the plain world, and with and without the wire."""

import random
import unittest

from livingroll.errors import DeedRefused
from livingroll.losses import DrawnLosses, FairLosses
from livingroll.world import World
from tests.worlds import PlainWorld, do, drawn_deed, drawn_groups, drawn_setting, look


class Runs(unittest.TestCase):
    def run_both(self, draw, setting, groups, steps, wire):
        """Lead a world and a plain world through the same ticks and deeds; they tell the same."""
        world = World(setting, *groups, wire=wire)
        plain = PlainWorld(setting, *groups)
        digits = [draw.choice((0, 0, 1, 2, 3, 4)) for _ in range(draw.randrange(40))]
        kind = draw.choice((lambda: DrawnLosses(digits), lambda: FairLosses(digits, setting.patience)))
        losses, same = kind(), kind()
        for _ in range(steps):
            if draw.random() < 0.6:
                asleep = draw.sample(range(setting.seats), draw.choice((0, 0, 1, 2)))
                self.assertIsNone(world.tick(losses, asleep=asleep))
                plain.tick(same, asleep)
                self.assertEqual(same.asked, losses.asked)
            else:
                self.do_both(world, plain, drawn_deed(draw, world))
            self.assertEqual(plain.rows, world.tries())
        self.assertEqual(plain.look(), look(world))

    def do_both(self, world, plain, deed):
        before = look(world)
        try:
            do(world, deed)
        except DeedRefused as refused:
            self.assertEqual(deed, refused.deed)
            self.assertEqual(before, look(world))
        else:
            plain.do(deed)
            self.assertEqual(deed, world.history()[-1])

    def test_drawn_histories(self):
        draw = random.Random(42)
        for at in range(70):
            setting = drawn_setting(draw, draw.choice((1, 2, 3, 3, 3)))
            self.run_both(draw, setting, drawn_groups(draw, setting), 60, at % 2 == 0)

    def test_the_wire_changes_nothing(self):
        draw = random.Random(40)
        for _ in range(15):
            setting = drawn_setting(draw)
            groups = drawn_groups(draw, setting)
            seed = draw.random()
            told = []
            for wire in (False, True):
                again = random.Random(seed)
                world = World(setting, *groups, wire=wire)
                losses = DrawnLosses([0, 1, 0, 2, 0, 0, 3])
                for _ in range(60):
                    if again.random() < 0.6:
                        world.tick(losses)
                    else:
                        try:
                            do(world, drawn_deed(again, world))
                        except DeedRefused:
                            pass
                told.append((look(world), losses.asked))
            self.assertEqual(told[0], told[1])
