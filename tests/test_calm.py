"""Points 46 and 47: fair stretches, linked and settled worlds, and the bound."""

import random

from livingroll.calm import is_fair_since, linked, names_held, settle_bound, settled
from livingroll.losses import DrawnLosses, FairLosses
from livingroll.setting import Setting
from livingroll.world import World
from tests.helpers import Case
from tests.worlds import Scripted, drawn_groups, drawn_losses, drawn_run, drawn_setting, drawn_world

SETTING = Setting(3, 2, 8, helpers=0)


def fair(world):
    """The answers for each t."""
    return [is_fair_since(world, t) for t in range(world.clock + 1)]


class Deeds(Case):
    def test_a_new_world(self):
        self.assertIs(True, is_fair_since(World(SETTING, [1, 4]), 0))

    def test_ticks_alone(self):
        world = World(SETTING, [1, 4])
        for _ in range(4):
            world.tick()
        self.assertEqual([True] * 5, fair(world))

    def test_a_deed_between_ticks(self):
        for deed in (lambda world: world.put(1, "a"), lambda world: world.heal(), lambda world: world.stray(0),
                     lambda world: world.mend(0, 2), lambda world: world.introduce(1, 4), lambda world: world.crash(6),
                     lambda world: world.admit(0, 1), lambda world: world.sever(2, 3)):
            world = World(SETTING, [1, 4, 6])
            world.tick()
            world.tick()
            deed(world)
            # It stands behind the ticks 0 and 1; no tick was done since clock 2.
            self.assertEqual([False, False, True], fair(world))
            world.tick()
            self.assertEqual([False, False, True, True], fair(world))

    def test_a_deed_ahead_of_all_ticks(self):
        world = World(SETTING, [1, 4, 6])
        world.crash(6)
        self.assertEqual([True], fair(world))
        world.tick()
        self.assertEqual([True, True], fair(world))

    def test_a_member_that_is_leaving(self):
        world = World(Setting(1, 1, 4), [0, 1])
        world.tick()
        world.leave(1)
        self.assertEqual([False, False], fair(world))
        world.tick(asleep=[0, 1])
        self.assertEqual([False, False, False], fair(world))
        world.tick()
        self.assertEqual([[0], [0]], [world.up(), world.living()])
        # Seat 0 slept for one tick, and its drift is 1.
        self.assertEqual([False, False, True, True], fair(world))


class Awake(Case):
    def asleep(self, drift, rows, group=(1, 4)):
        world = World(SETTING, list(group), drift=drift)
        for row in rows:
            world.tick(asleep=row)
        return fair(world)

    def test_drift_one(self):
        self.assertEqual([True] * 3, self.asleep(1, [[], []]))
        self.assertEqual([False, False, True, True], self.asleep(1, [[], [4], []]))

    def test_greater_drift(self):
        self.assertEqual([True] * 5, self.asleep(2, [[4], [1], [4], []]))
        self.assertEqual([False, True, True], self.asleep(2, [[4], [4]]))
        self.assertEqual([False, False, True, True, True], self.asleep(2, [[], [4], [4], [1]]))
        self.assertEqual([True] * 7, self.asleep(3, [[4], [4], [], [4], [4], []]))
        self.assertEqual([False] * 2 + [True] * 5, self.asleep(3, [[1], [4], [4], [1, 4], [1], []]))
        self.assertEqual([True] * 6, self.asleep(6, [[1, 4]] * 5))
        self.assertEqual([False] + [True] * 6, self.asleep(6, [[1, 4]] * 6))

    def test_a_stretch_that_is_shorter_than_drift(self):
        self.assertEqual([True] * 3, self.asleep(3, [[4], [4]]))

    def test_a_seat_that_does_not_live(self):
        world = World(SETTING, [1, 4, 6])
        world.crash(6)
        world.tick(asleep=[6])
        world.tick(asleep=[6, 0, 9])
        self.assertEqual([True] * 3, fair(world))

    def test_nobody_lives(self):
        world = World(SETTING, [1])
        world.crash(1)
        world.tick()
        self.assertEqual([True] * 2, fair(world))


class Heard(Case):
    def lost(self, patience, answers, kind="quick", setting=None):
        world = World(setting or Setting(1, patience, 8, helpers=0), [0, 1])
        losses = Scripted({(0, 1, kind): answers})
        for _ in range(len(answers)):
            world.tick(losses)
        return fair(world)

    def test_patience_lost_tries_in_a_row(self):
        self.assertEqual([False, True], self.lost(1, [0]))
        self.assertEqual([True, True], self.lost(2, [0]))
        self.assertEqual([False, True, True], self.lost(2, [0, 1]))
        self.assertEqual([True] * 4, self.lost(2, [0, None, 0]))
        self.assertEqual([False, False, True, True, True], self.lost(2, [None, 0, 0, None]))
        self.assertEqual([True] * 6, self.lost(6, [0] * 5))
        self.assertEqual([False] + [True] * 6, self.lost(6, [0] * 6))

    def test_each_kind_for_itself(self):
        self.assertEqual([False, True, True], self.lost(2, [0, 1], "slow"))
        world = World(Setting(1, 2, 8, helpers=0), [0, 1])
        world.tick(Scripted({(0, 1, "quick"): 0, (1, 0, "slow"): 0}))
        world.tick(Scripted({(0, 1, "slow"): 0, (1, 0, "quick"): 0}))
        self.assertEqual([True] * 3, fair(world))

    def test_an_answered_call_that_did_not_pass(self):
        world = World(Setting(3, 1, 1, helpers=0), [1, 4])
        world.tick(Scripted({(1, 4, "slow"): 3}))
        self.assertEqual([False, True], fair(world))

    def test_lost_probes_do_not_count(self):
        world = World(Setting(3, 2, 8, helpers=3), [1, 4, 6, 7])
        losses = Scripted({**{(1, seat, "probe"): 0 for seat in (4, 6, 7)}, (1, 4, "slow"): [0, None]})
        for _ in range(2):
            world.tick(losses)
        self.assertIn((1, 6, "probe"), losses.calls)
        self.assertEqual([True] * 3, fair(world))

    def test_a_cut_link(self):
        world = World(Setting(1, 2, 8, helpers=0), [0, 1])
        world.sever(1, 0)
        world.tick()
        self.assertEqual([True] * 2, fair(world))
        world.tick()
        self.assertEqual([False, True, True], fair(world))

    def test_tries_to_seats_that_were_down_do_not_count(self):
        world = World(Setting(1, 2, 8, helpers=0), [0, 1])
        world.crash(1)
        for _ in range(5):
            world.tick()
        self.assertEqual([True] * 6, fair(world))
        self.assertEqual({False}, {row[4] for row in world.tries()})

    def test_tries_ahead_of_and_behind_a_leave(self):
        # Seat 1 is up in two ticks in which its letters are lost, and gone behind them.
        world = World(Setting(1, 2, 8, helpers=0), [0, 1])
        world.leave(1)
        losses = DrawnLosses([1])
        for _ in range(4):
            world.tick(losses)
        self.assertEqual([0], world.up())
        gone = [t for t in range(5) if all(row[1] == 0 for row in world.tries(t))][0]
        self.assertGreater(gone, 1)
        self.assertEqual([False] * (gone - 1) + [True] * (6 - gone), fair(world))
        # While it is gone, nothing that is called on counts.
        for _ in range(4):
            world.tick(losses)
        self.assertEqual([False] * (gone - 1) + [True] * (10 - gone), fair(world))

    def test_drawn_worlds_with_fair_losses(self):
        draw = random.Random(46)
        for _ in range(30):
            world = drawn_world(draw)
            drawn_run(draw, world, 20)
            world.heal()
            start = world.clock
            losses = FairLosses([draw.randrange(4) for _ in range(9)], world.setting.patience)
            for _ in range(15):
                world.tick(losses)
            if world.up() == world.living() and not leaver_was_up(world, start):
                self.assertTrue(all(is_fair_since(world, t) for t in range(start, world.clock + 1)))

    def test_drawn_worlds_by_the_words(self):
        draw = random.Random(47)
        told = []
        for _ in range(60):
            setting = drawn_setting(draw)
            world = Noting(setting, *drawn_groups(draw, setting), drift=draw.randrange(1, 4))
            drawn_run(draw, world, 12, losses=drawn_losses(draw, world.setting), tick_share=0.85)
            for t in range(world.clock + 1):
                told.append(by_the_words(world, t))
                self.assertIs(told[-1], is_fair_since(world, t))
        self.assertEqual({True, False}, set(told))


class Noting(World):
    """A world that notes for each tick which seats were up."""

    def __init__(self, setting, *groups, drift):
        super().__init__(setting, *groups, drift=drift)
        self.ups = []

    def tick(self, losses=None, *, asleep=()):
        self.ups.append(self.up())
        super().tick(losses, asleep=asleep)


def leaver_was_up(world, start):
    return any(row[1] not in world.living() for row in world.tries(start))


def by_the_words(world, t):
    """Point 46 once more, for a world that noted who was up in each tick."""
    if world.up() != world.living():
        return False
    history = world.history()
    ticks = [at for at, deed in enumerate(history) if deed[0] == "tick"]
    stretch = history[ticks[t]:] if t < len(ticks) else []
    if any(deed[0] != "tick" for deed in stretch):
        return False
    for seat in world.living():
        for at in range(len(stretch) - world.drift + 1):
            if all(seat in deed[1] for deed in stretch[at:at + world.drift]):
                return False
    patience = world.setting.patience
    for call in {row[1:4] for row in world.tries(t)}:
        rows = [row[4] for row in world.tries(t) if row[1:4] == call and row[2] in world.ups[row[0]]]
        if any(True not in rows[at:at + patience] for at in range(len(rows) - patience + 1)):
            return False
    return True


class Linked(Case):
    def test_nobody_and_one(self):
        world = World(SETTING, [1])
        self.assertEqual([True, 1], [linked(world), names_held(world)])
        world.crash(1)
        self.assertEqual([True, 0, True], [linked(world), names_held(world), settled(world)])

    def test_nobody_lives_but_somebody_is_leaving(self):
        world = World(SETTING, [1])
        world.leave(1)
        self.assertEqual([True, 0, False], [linked(world), names_held(world), settled(world)])

    def test_groups_apart(self):
        world = World(SETTING, [1, 4], [6, 7])
        self.assertEqual([False, 4], [linked(world), names_held(world)])
        world.introduce(4, 7)
        self.assertEqual([True, 4], [linked(world), names_held(world)])

    def test_linked_by_one_who_holds_the_other(self):
        for seat, other in ((1, 4), (4, 1)):
            world = World(SETTING, [1], [4])
            self.assertIs(False, linked(world))
            world.introduce(seat, other)
            self.assertIs(True, linked(world))

    def test_a_chain(self):
        world = World(SETTING, [0], [2], [4], [6])
        world.introduce(4, 2)
        world.introduce(4, 6)
        self.assertIs(False, linked(world))
        world.introduce(0, 6)
        self.assertIs(True, linked(world))

    def test_a_seat_that_does_not_live_links_nobody(self):
        for deed in (lambda world: world.crash(7), lambda world: world.leave(7)):
            world = World(SETTING, [1], [4], [7])
            world.introduce(1, 7)
            world.introduce(4, 7)
            self.assertIs(True, linked(world))
            deed(world)
            self.assertEqual([False, 3], [linked(world), names_held(world)])

    def test_a_mark_does_not_matter(self):
        world = World(Setting(3, 1, 8, grace=1, helpers=0), [1, 4])
        world.divide([1], [4])
        for _ in range(4):
            world.tick()
        self.assertEqual(["dead", "dead"], [world.book_of(1).of(4)[2], world.book_of(4).of(1)[2]])
        self.assertIs(True, linked(world))

    def test_names_of_living_members_alone(self):
        world = World(SETTING, [1, 4], [6])
        world.admit(0, 6)
        self.assertEqual(4, names_held(world))
        world.crash(0)
        world.crash(6)
        self.assertEqual(2, names_held(world))
        world.leave(1)
        world.leave(4)
        self.assertEqual(0, names_held(world))


class Bound(Case):
    def test_numbers_of_living(self):
        setting = Setting(2, 1, 4, grace=3)
        # The least power of two that is not less than living - 1.
        logs = {0: 0, 1: 0, 2: 0, 3: 1, 4: 2, 5: 2, 6: 3, 9: 3, 10: 4, 17: 4, 18: 5, 256: 8}
        for living, log in logs.items():
            self.assertEqual((max(1, log) + 2) * 5 + 3, settle_bound(setting, 5, living))

    def test_settings(self):
        self.assertEqual(35, settle_bound(Setting(2, 2, 4, grace=3), 4, 4))
        self.assertEqual(4 * 7 * 3 * 2 + 200, settle_bound(Setting(3, 3, 4, grace=200), 7, 5))
        self.assertEqual(3 * 1 * 6 * 256 + 1, settle_bound(Setting(8, 6, 1, grace=1), 1, 1))
        self.assertEqual(6, settle_bound(Setting(3, 3, 4), 0, 0))

    def test_drift(self):
        setting = Setting(3, 2, 3, grace=5)
        for drift in range(1, 7):
            self.assertEqual((3 * 6 * 2 * 3 + 5) * drift, settle_bound(setting, 6, 3, drift=drift))


class Settled(Case):
    def test_new_worlds(self):
        self.assertIs(True, settled(World(SETTING, [1, 4, 6])))
        self.assertIs(True, settled(World(SETTING, [1])))
        self.assertIs(False, settled(World(SETTING, [1], [4])))

    def test_somebody_is_leaving(self):
        world = World(Setting(1, 1, 4), [0, 1])
        world.leave(1)
        self.assertIs(False, settled(world))
        world.tick()
        self.assertIs(True, settled(world))

    def test_unequal_books(self):
        # Both mark the same seats as alive; they differ about a seat that is gone.
        world = World(Setting(3, 1, 8, grace=9, helpers=0), [1, 4], [6])
        world.crash(6)
        self.assertIs(True, settled(world))
        world.introduce(1, 6)
        self.assertIs(False, settled(world))
        for _ in range(12):
            world.tick()
        self.assertIs(True, settled(world))

    def test_a_living_seat_that_is_not_alive_in_the_books(self):
        world = World(SETTING, [1], [4])
        self.assertIs(False, settled(world))
        world = World(SETTING, [1, 4])
        world.admit(6, 4)
        self.assertIs(False, settled(world))

    def test_a_seat_alive_in_the_books_that_does_not_live(self):
        world = World(SETTING, [1, 4])
        world.crash(4)
        self.assertIs(False, settled(world))

    def test_another_worth(self):
        world = World(SETTING, [1, 4])
        world.put(4, "a")
        self.assertIs(False, settled(world))
        world.tick()
        self.assertIs(True, settled(world))

    def test_a_returned_member_with_the_same_worth(self):
        world = World(SETTING, [1, 4])
        world.crash(4)
        world.revive(4)
        self.assertIs(False, settled(world))
        for _ in range(4):
            world.tick()
        self.assertIs(True, settled(world))

    def test_a_suspect_seat(self):
        world = World(Setting(3, 1, 8, grace=5, helpers=0), [1, 4])
        world.crash(4)
        told = []
        for _ in range(8):
            world.tick()
            told.append((world.book_of(1).of(4)[2], settled(world)))
        self.assertEqual([("suspect", False)] * 4 + [("dead", True)] * 4, told)

    def test_looking_changes_nothing(self):
        world = World(SETTING, [1, 4])
        for function in (linked, names_held, settled):
            function(world)
        self.assertEqual([0, [], [(1, 1, "alive", ""), (4, 1, "alive", "")]],
                         [world.clock, world.history(), world.book_of(1).rows()])
