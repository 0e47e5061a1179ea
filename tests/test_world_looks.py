"""Point 44: what a world tells."""

from livingroll.errors import DeedRefused, UnknownSeat
from livingroll.setting import Setting
from livingroll.wire import parse_letter
from livingroll.world import World
from tests.helpers import Case
from tests.worlds import look

SETTING = Setting(3, 2, 8)


def mixed():
    """A world with seats 0 and 1 up, 2 leaving, 3 down, 4 gone, 5 to 7 unused."""
    world = World(SETTING, [0, 1, 2, 3, 4])
    world.put(0, "a")
    world.put(2, "c")
    world.put(3, "d")
    for _ in range(4):
        world.tick()
    world.leave(2)
    world.crash(3)
    world.leave(4)
    world.crash(4)
    return world


class Looks(Case):
    def test_lists_of_seats(self):
        world = mixed()
        self.assertEqual([[0, 1], [0, 1, 2], [0, 1, 2, 3, 4]], [world.living(), world.up(), world.used()])

    def test_seats_that_are_up_or_leaving(self):
        world = mixed()
        rows = [(0, 2, "alive", "a"), (1, 1, "alive", ""), (2, 2, "alive", "c"), (3, 2, "alive", "d"), (4, 1, "alive", "")]
        self.assertEqual(rows, world.book_of(1).rows())
        self.assertEqual([(0, "a"), (1, ""), (2, "c"), (3, "d"), (4, "")], world.roll_of(1))
        self.assertEqual([2, 1, 2], [world.life_of(seat) for seat in (0, 1, 2)])
        self.assertEqual([4, 4, 4], [world.beat_of(seat) for seat in (0, 1, 2)])
        self.assertEqual(["a", "", "c"], [world.worth_of(seat) for seat in (0, 1, 2)])
        # A leaver does not hold itself to be alive.
        self.assertEqual([0, 1, 3, 4], [seat for seat, _ in world.roll_of(2)])

    def test_a_roll_holds_the_mark_alive_alone(self):
        world = World(Setting(3, 1, 8, grace=2, helpers=0), [0, 1])
        world.crash(1)
        told = []
        for _ in range(3):
            told.append(world.roll_of(0))
            world.tick()
        self.assertEqual([[(0, ""), (1, "")], [(0, "")], [(0, "")]], told)

    def test_unknown_seats(self):
        world = mixed()
        for seat in (3, 4, 5, 7, 8, -1, 99):
            for told in (world.book_of, world.roll_of, world.life_of, world.beat_of, world.worth_of):
                self.assert_refused(UnknownSeat, seat, told, seat)

    def test_areas(self):
        world = mixed()
        for seat in range(5):
            areas = world.areas_of(seat)
            self.assertIsInstance(areas, tuple)
            self.assertEqual([str, str], [text.__class__ for text in areas])
            self.assertTrue(areas[0].startswith("area 0 "))
        for seat in (5, 7, 8, -1):
            self.assert_refused(UnknownSeat, seat, world.areas_of, seat)
        # What a running member has not flushed yet is not durable.
        world = World(SETTING, [0, 4])
        before = world.areas_of(4)
        world.put(0, "a")
        world.tick(asleep=[4])
        self.assertEqual(before, world.areas_of(4))

    def test_states_and_cuts(self):
        world = mixed()
        self.assertEqual(["up", "up", "leaving", "down", "gone"], [world.state_of(seat) for seat in range(5)])
        for seat in (5, 8, -1):
            self.assert_refused(UnknownSeat, seat, world.state_of, seat)
        world.sever(0, 5)
        self.assertEqual([True, False, False], [world.is_cut(0, 5), world.is_cut(5, 0), world.is_cut(0, 0)])

    def test_letters(self):
        world = mixed()
        self.assertGreater(world.letters(), 5)
        for index in range(world.letters()):
            parse_letter(SETTING, world.letter(index))
        self.assertEqual("ask 0 4 0 1|= 0 2 alive a|= 4 1 alive -|", world.letter(0)[:-5])
        for index in (-1, world.letters(), 10 ** 6):
            self.assert_refused(DeedRefused, ("letter", index), world.letter, index)
        self.assert_refused(DeedRefused, ("letter", 0), World(SETTING, [1]).letter, 0)

    def test_tries(self):
        world = World(SETTING, [0, 4])
        self.assertEqual([[], []], [world.tries(), world.tries(5)])
        for _ in range(3):
            world.tick(asleep=[4])
        world.crash(4)
        world.tick()
        rows = [(clock, 0, 4, kind, clock < 3) for clock in range(4) for kind in ("quick", "slow")]
        self.assertEqual(rows, world.tries())
        for since in range(7):
            self.assertEqual([row for row in rows if row[0] >= since], world.tries(since))
        self.assertEqual([True, False], [world.tries()[0][4], world.tries()[-1][4]])

    def test_journals(self):
        world = mixed()
        world.revive(3)
        world.crash(3)
        world.revive(3)
        journals = world.journals()
        self.assertEqual([0, 1, 2, 3, 4], list(journals))
        self.assertEqual([1, 1, 1, 3, 1], [len(journals[seat]) for seat in journals])
        self.assertEqual([(seat, 1, "alive", None) for seat in range(5)] + [(0, 2, "alive", 0)], journals[0][0][:6])
        first, second, third = journals[3]
        self.assertEqual((3, 3, "alive", 3), second[-1])
        self.assertEqual((3, 4, "alive", 3), third[-1])
        for run in (second, third):
            self.assertEqual(5, len([entry for entry in run if entry[3] is None]))
        self.assertEqual((3, 2, "alive", 3), first[5])

    def test_what_was_told_may_be_changed(self):
        world = mixed()
        before = look(world)
        book = world.book_of(0)
        book.take((5, 9, "alive", "x"))
        book.take((0, 9, "left", ""))
        for told in (world.living(), world.up(), world.used(), world.roll_of(0), world.tries(), world.history()):
            told.clear()
        journals = world.journals()
        journals[0][0].clear()
        journals[1].append([])
        del journals[2]
        self.assertEqual(before, look(world))

    def test_looking_changes_nothing(self):
        world = mixed()
        self.assertEqual(look(world), look(world))
