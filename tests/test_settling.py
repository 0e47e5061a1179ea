"""Point 48: each linked world is settled behind a fair stretch of the told length."""

import random
import unittest

from livingroll.calm import is_fair_since, linked, names_held, settle_bound, settled
from livingroll.errors import DeedRefused
from livingroll.losses import FairLosses
from livingroll.setting import Setting
from livingroll.world import World
from tests.worlds import drawn_groups, drawn_losses, drawn_run


class Moment:
    """What the fact looks at when a stretch begins."""

    def __init__(self, world):
        self.start = world.clock
        self.living = world.living()
        self.books = [world.book_of(seat) for seat in self.living]
        self.lives = {seat: world.life_of(seat) for seat in self.living}
        self.bound = settle_bound(world.setting, names_held(world), len(self.living), drift=world.drift)

    def told_of(self, seat):
        """The greatest life that one of the books held about a seat, and whether one held it as left."""
        rows = [book.of(seat) for book in self.books if seat in book]
        return max(row[1] for row in rows), any(row[2] == "left" for row in rows)


class Settling(unittest.TestCase):
    def prepared(self, draw, setting, drift, steps):
        """A world behind drawn deeds and losses, in which the living are linked, and nobody is leaving."""
        world = World(setting, *drawn_groups(draw, setting), drift=drift)
        drawn_run(draw, world, steps, losses=drawn_losses(draw, setting))
        if draw.random() < 0.5:
            self.let_some_seats_go(draw, world)
        world.heal()
        while world.up() != world.living():
            world.tick()
        while not linked(world):
            world.introduce(*draw.sample(world.living(), 2))
        return world

    def let_some_seats_go(self, draw, world):
        for _ in range(draw.randrange(4)):
            seat = draw.randrange(world.setting.seats)
            try:
                draw.choice((world.crash, world.leave, world.revive))(seat)
            except DeedRefused:
                pass

    def sleepers(self, draw, world, slept):
        """Some seats, so that no living one sleeps for drift ticks in a row."""
        asleep = []
        for seat in range(world.setting.seats):
            if draw.random() < 0.5 and slept.get(seat, 0) < world.drift - 1:
                asleep.append(seat)
            slept[seat] = slept.get(seat, 0) + 1 if seat in asleep else 0
        return asleep

    def assert_settles(self, draw, world):
        moment = Moment(world)
        digits = [draw.choice((0, 0, 1, 1, 2, 3, 4)) for _ in range(draw.randrange(1, 40))]
        losses = FairLosses(digits, world.setting.patience)
        slept = {}
        for done in range(1, moment.bound + 6):
            world.tick(losses, asleep=self.sleepers(draw, world, slept))
            if done >= moment.bound:
                self.assertTrue(settled(world))
        self.assertTrue(is_fair_since(world, moment.start))
        self.assertEqual(moment.living, world.living())
        self.assert_marks(world, moment)

    def assert_marks(self, world, moment):
        for seat in moment.living:
            self.assertIn(world.life_of(seat) - moment.lives[seat], (0, 1))
        for seat in moment.living[:1]:
            for row in world.book_of(seat).rows():
                if row[0] not in moment.living:
                    life, left = moment.told_of(row[0])
                    self.assertEqual((row[0], life, "left" if left else "dead"), row[:3])

    def test_drawn_histories(self):
        draw = random.Random(48)
        many = []
        for _ in range(60):
            setting = Setting(draw.choice((1, 2, 3, 3)), draw.randrange(1, 4), draw.randrange(2, 9),
                              grace=draw.randrange(1, 9), helpers=draw.randrange(4))
            world = self.prepared(draw, setting, 1, draw.randrange(40))
            many.append(len(world.living()))
            self.assert_settles(draw, world)
        self.assertGreater(max(many), 5)

    def test_sleepers(self):
        draw = random.Random(49)
        for drift in (2, 3, 2, 3, 2, 3):
            setting = Setting(3, draw.randrange(1, 3), 8, grace=draw.randrange(1, 9))
            self.assert_settles(draw, self.prepared(draw, setting, drift, 20))

    def test_groups_that_were_introduced(self):
        draw = random.Random(50)
        for _ in range(8):
            world = World(Setting(3, 2, 4), [0, 5], [3], [1, 2], [6, 7])
            drawn_run(draw, world, 10, tick_share=0.9)
            world.heal()
            if world.up() == world.living():
                while not linked(world):
                    world.introduce(*draw.sample(world.living(), 2))
                self.assert_settles(draw, world)

    def test_a_split_in_which_each_half_held_the_other_to_be_dead(self):
        draw = random.Random(51)
        world = World(Setting(3, 2, 8, grace=2), [0, 1, 4, 6])
        world.divide([0, 1], [4, 6])
        for _ in range(40):
            world.tick()
        self.assertEqual([[0, 1], [4, 6]], [world.book_of(seat).marked("alive") for seat in (0, 4)])
        world.heal()
        self.assert_settles(draw, world)
        self.assertEqual([0, 1, 4, 6], world.book_of(0).marked("alive"))

    def test_a_crash_and_a_leave_alone(self):
        draw = random.Random(52)
        world = World(Setting(3, 2, 8), [0, 1, 4, 6])
        world.leave(6)
        while 6 in world.up():
            world.tick()
        world.crash(4)
        self.assert_settles(draw, world)
        self.assertEqual([(4, 1, "dead", ""), (6, 1, "left", "")], world.book_of(0).rows()[2:])
