"""Point 55: the plain twin."""

import random

from livingroll.calm import linked, names_held, settle_bound, settled
from livingroll.errors import DeedRefused
from livingroll.losses import FairLosses
from livingroll.twin import Twin
from tests.helpers import Case
from tests.worlds import drawn_losses, drawn_run, drawn_world


def behind(*deeds, founders=(1, 4, 6)):
    return Twin.behind(list(founders), list(deeds))


class Deeds(Case):
    def assert_refused_by(self, twin, deed):
        """The deed is refused and changes nothing: all further deeds are taken or refused as before."""
        before = twin.living()
        self.assert_refused(DeedRefused, deed, twin.follow, deed)
        self.assertEqual(before, twin.living())

    def test_founders(self):
        for founders in ([1, 4, 6], [6, 1, 4]):
            given = list(founders)
            self.assertEqual([(1, ""), (4, ""), (6, "")], Twin(founders).living())
            self.assertEqual(given, founders)
        self.assertEqual([(7, "")], Twin([7]).living())

    def test_join(self):
        twin = Twin([1, 4])
        self.assertIsNone(twin.follow(("join", 0, 4)))
        self.assertEqual([(0, ""), (1, ""), (4, "")], twin.living())
        twin.follow(("join", 7, 0))
        for deed in (("join", 0, 4), ("join", 1, 4), ("join", 4, 4), ("join", 2, 3), ("join", 2, 2), ("join", 7, 3)):
            self.assert_refused_by(twin, deed)

    def test_join_of_seats_and_by_sponsors_that_do_not_live(self):
        twin = behind(("crash", 1, 0), ("leave", 4), ("join", 0, 1), ("join", 2, 4))
        self.assertEqual([(0, ""), (2, ""), (6, "")], twin.living())
        for seat in (1, 4):
            self.assert_refused_by(twin, ("join", seat, 6))

    def test_put(self):
        twin = Twin([1, 4])
        for worth in ("a", "b", "b", ""):
            self.assertIsNone(twin.follow(("put", 4, worth)))
            self.assertEqual([(1, ""), (4, worth)], twin.living())
        twin.follow(("crash", 1, 0))
        for seat in (1, 2):
            self.assert_refused_by(twin, ("put", seat, "a"))

    def test_leave(self):
        twin = behind(("put", 4, "a"))
        self.assertIsNone(twin.follow(("leave", 4)))
        self.assertEqual([(1, ""), (6, "")], twin.living())
        for deed in (("leave", 4), ("put", 4, "b"), ("revive", 4), ("leave", 0)):
            self.assert_refused_by(twin, deed)
        twin.follow(("crash", 1, 0))
        self.assert_refused_by(twin, ("leave", 1))

    def test_crash(self):
        twin = Twin([1, 4])
        self.assertIsNone(twin.follow(("crash", 4, 7)))
        self.assertEqual([(1, "")], twin.living())
        for deed in (("crash", 4, 0), ("crash", 0, 0)):
            self.assert_refused_by(twin, deed)

    def test_crash_of_a_seat_that_left(self):
        twin = behind(("leave", 4))
        for _ in range(2):
            self.assertIsNone(twin.follow(("crash", 4, 0)))
            self.assertEqual([(1, ""), (6, "")], twin.living())
            self.assert_refused_by(twin, ("revive", 4))

    def test_revive(self):
        twin = behind(("put", 4, "a"), ("crash", 4, 0))
        self.assertIsNone(twin.follow(("revive", 4)))
        self.assertEqual([(1, ""), (4, "a"), (6, "")], twin.living())
        for deed in (("revive", 4), ("revive", 1), ("revive", 0)):
            self.assert_refused_by(twin, deed)
        for worth in ("b", "c"):
            twin.follow(("put", 4, worth))
            twin.follow(("crash", 4, 0))
            self.assert_refused_by(twin, ("put", 4, "x"))
            twin.follow(("revive", 4))
            self.assertEqual([(1, ""), (4, worth), (6, "")], twin.living())

    def test_revive_of_a_seat_that_left_and_crashed(self):
        twin = behind(("crash", 4, 0), ("revive", 4), ("leave", 4), ("crash", 4, 0))
        self.assert_refused_by(twin, ("revive", 4))

    def test_all_other_deeds(self):
        twin = behind(("put", 4, "a"), ("crash", 6, 0))
        for deed in (("tick", ()), ("tick", (1, 4)), ("cut", 1, 4), ("mend", 1, 9), ("split", ((1,), (4, 6))), ("heal",),
                     ("stray", 5), ("introduce", 6, 0), ("settle",), ("other", 1, 2)):
            self.assertIsNone(twin.follow(deed))
            self.assertEqual([(1, ""), (4, "a")], twin.living())

    def test_nothing_else_is_checked(self):
        twin = behind(("put", 4, "NO TEXT"), ("crash", 6, -5), ("join", 99, 1))
        self.assertEqual([(1, ""), (4, "NO TEXT"), (99, "")], twin.living())


class Behind(Case):
    def test_a_list_of_deeds(self):
        deeds = [("join", 0, 1), ("put", 0, "a"), ("tick", ()), ("crash", 1, 0)]
        for count in range(5):
            twin = Twin([1])
            for deed in deeds[:count]:
                twin.follow(deed)
            self.assertEqual(twin.living(), Twin.behind([1], deeds[:count]).living())
        self.assertEqual([(0, "a")], Twin.behind([1], deeds).living())
        self.assertEqual(4, len(deeds))

    def test_refused(self):
        self.assert_refused(DeedRefused, ("leave", 2), Twin.behind, [1], [("put", 1, "a"), ("leave", 2), ("put", 3, "")])

    def test_it_is_a_static_method(self):
        self.assertIsInstance(vars(Twin)["behind"], staticmethod)

    def test_living_is_a_new_list(self):
        twin = Twin([1])
        twin.living().clear()
        self.assertEqual([(1, "")], twin.living())


class Worlds(Case):
    def test_the_fact_over_drawn_histories(self):
        draw = random.Random(55)
        groups = []
        for _ in range(40):
            world = drawn_world(draw)
            founders = world.used()
            groups.append(len({tuple(world.book_of(seat).held()) for seat in founders}))
            losses = drawn_losses(draw, world.setting)
            for _ in range(12):
                drawn_run(draw, world, 4, losses=losses)
                twin = Twin.behind(draw.sample(founders, len(founders)), world.history())
                self.assertEqual([(seat, world.worth_of(seat)) for seat in world.living()], twin.living())
        self.assertEqual({1, 2, 3}, set(groups))

    def test_the_rolls_of_settled_worlds(self):
        draw = random.Random(56)
        for _ in range(15):
            world = drawn_world(draw)
            founders = world.used()
            drawn_run(draw, world, 20)
            world.heal()
            while world.up() != world.living():
                world.tick()
            while not linked(world):
                world.introduce(*draw.sample(world.living(), 2))
            losses = FairLosses([1, 0, 2, 0], world.setting.patience)
            for _ in range(settle_bound(world.setting, names_held(world), len(world.living()))):
                world.tick(losses)
            self.assertTrue(settled(world))
            twin = Twin.behind(founders, world.history())
            for seat in world.living():
                self.assertEqual(twin.living(), world.roll_of(seat))
