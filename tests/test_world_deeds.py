"""Point 43: the deeds of a world, done and refused."""

from livingroll.errors import DeedRefused
from livingroll.mending import restore
from livingroll.setting import Setting
from livingroll.world import World
from tests.helpers import Case
from tests.worlds import Scripted, letters_of, look

SETTING = Setting(3, 2, 8, helpers=0)


def made(*groups, setting=SETTING):
    return World(setting, *(groups or ([1, 4, 6],)))


def leaving(world, seat):
    world.leave(seat)
    return world


def gone(world, seat):
    world.leave(seat)
    world.crash(seat)
    return world


class Deeds(Case):
    def assert_deed(self, world, deed, function, *given, told=None, **named):
        """The deed is done: it stands in the history, and the call returns what it should."""
        before = world.history()
        result = function(*given, **named)
        self.assertEqual([told, told.__class__], [result, result.__class__])
        self.assertEqual(before + [deed], world.history())

    def assert_no_deed(self, world, deed, function, *given, **named):
        """The deed is refused and changes nothing."""
        before = look(world)
        self.assert_refused(DeedRefused, deed, function, *given, **named)
        self.assertEqual(before, look(world))


class History(Deeds):
    def test_all_deeds_in_order(self):
        world = made()
        self.assertEqual([], world.history())
        world.tick(asleep=[6, 1])
        world.admit(0, 4)
        world.leave(1)
        world.put(4, "ab")
        world.crash(6, keep=3)
        world.revive(6)
        world.crash(0)
        world.sever(4, 6)
        world.mend(4, 6)
        world.divide([4, 1], (6,), [2])
        world.heal()
        world.stray(0)
        world.introduce(4, 0)
        world.tick()
        told = [
            ("tick", (1, 6)), ("join", 0, 4), ("leave", 1), ("put", 4, "ab"), ("crash", 6, 3), ("revive", 6),
            ("crash", 0, 0), ("cut", 4, 6), ("mend", 4, 6), ("split", ((4, 1), (6,), (2,))), ("heal",), ("stray", 0),
            ("introduce", 4, 0), ("tick", ()),
        ]
        self.assertEqual(told, world.history())
        self.assertTrue(all(isinstance(deed, tuple) for deed in world.history()))

    def test_it_is_a_new_list(self):
        world = made()
        world.heal()
        world.history().clear()
        world.history().append(("heal",))
        self.assertEqual([("heal",)], world.history())


class Admit(Deeds):
    def test_done(self):
        world = made()
        self.assert_deed(world, ("join", 0, 4), world.admit, 0, 4)
        self.assertEqual([[0, 1, 4, 6]] * 3, [world.used(), world.up(), world.living()])
        self.assertEqual([(0, 1, "alive", ""), (4, 0, "alive", "")], world.book_of(0).rows())
        self.assertEqual([[(0, 1, "alive", None), (4, 0, "alive", None)]], world.journals()[0])
        self.assertNotIn(0, world.book_of(4))

    def test_sponsors_that_are_not_living(self):
        for deed in (leaving, gone, lambda world, seat: world.crash(seat)):
            world = made()
            deed(world, 4)
            self.assert_deed(world, ("join", 0, 4), world.admit, 0, 4)

    def test_a_joiner_as_a_sponsor(self):
        world = made()
        world.admit(0, 4)
        self.assert_deed(world, ("join", 2, 0), world.admit, 2, 0)

    def test_refused(self):
        world = made()
        world.crash(1)
        gone(world, 4)
        for seat in (-1, 8, 99):
            self.assert_no_deed(world, ("join", seat, 6), world.admit, seat, 6)
        for seat in (1, 4, 6):
            self.assert_no_deed(world, ("join", seat, 6), world.admit, seat, 6)
        for sponsor in (2, 0, 8, -1):
            self.assert_no_deed(world, ("join", 0, sponsor), world.admit, 0, sponsor)

    def test_the_joiner_calls_and_is_called(self):
        world = made()
        world.admit(0, 4)
        world.put(0, "new")
        for _ in range(8):
            world.tick()
        for seat in (0, 1, 4, 6):
            self.assertEqual([(0, "new"), (1, ""), (4, ""), (6, "")], world.roll_of(seat))


class LeaveAndPut(Deeds):
    def test_leave(self):
        world = made()
        self.assert_deed(world, ("leave", 4), world.leave, 4)
        self.assertEqual([[1, 6], [1, 4, 6]], [world.living(), world.up()])
        self.assertEqual((4, 1, "left", ""), world.book_of(4).of(4))
        self.assertEqual([1, ""], [world.life_of(4), world.worth_of(4)])

    def test_put(self):
        world = made()
        for life, worth in enumerate(("ab", "ab", "", "abcdefghij09"), start=2):
            self.assert_deed(world, ("put", 4, worth), world.put, 4, worth)
            self.assertEqual([life, worth], [world.life_of(4), world.worth_of(4)])
            self.assertEqual((4, life, "alive", worth), world.book_of(4).of(4))
        self.assertEqual((4, 1, "alive", ""), world.book_of(1).of(4))

    def test_seats_that_are_not_living(self):
        world = World(SETTING, [0, 1, 4, 6])
        leaving(world, 1)
        world.crash(4)
        gone(world, 6)
        for seat in (1, 4, 6, 2, 8, -1):
            self.assert_no_deed(world, ("leave", seat), world.leave, seat)
            self.assert_no_deed(world, ("put", seat, "a"), world.put, seat, "a")

    def test_wrong_worths(self):
        world = made()
        for worth in ("A", "a b", "-", "abcdefghijklm", "a\n", "\u00e4", None, 7, True, b"a", ("a",)):
            self.assert_no_deed(world, ("put", 4, worth), world.put, 4, worth)


class Crash(Deeds):
    def pending(self):
        """A world in which seat 4 heard two things that its disk did not write yet."""
        world = made()
        world.put(1, "a")
        world.put(6, "c")
        world.tick(asleep=[4])
        # The two lines have 19 and 19 characters with their checks and newlines.
        self.assertEqual([(1, 2, "alive", "a"), (6, 2, "alive", "c")], [world.book_of(4).of(seat) for seat in (1, 6)])
        return world

    def held(self, world, seat):
        return [row[:2] for row in restore(SETTING, world.areas_of(seat))[0].rows()]

    def test_each_keep(self):
        whole = len("1 2 alive a 0000\n")
        for keep, told in ((0, []), (1, []), (whole - 1, []), (whole, [1]), (whole + 1, [1]), (2 * whole - 1, [1]),
                           (2 * whole, [1, 6]), (2 * whole + 1, [1, 6]), (10 ** 9, [1, 6])):
            world = self.pending()
            before = world.areas_of(4)[0]
            self.assert_deed(world, ("crash", 4, keep), world.crash, 4, keep=keep)
            self.assertEqual(min(keep, 2 * whole), len(world.areas_of(4)[0]) - len(before))
            lives = {1: 2 if 1 in told else 1, 6: 2 if 6 in told else 1}
            self.assertEqual([(1, lives[1]), (4, 1), (6, lives[6])], self.held(world, 4))

    def test_the_seat_is_down(self):
        world = made()
        self.assert_deed(world, ("crash", 4, 0), world.crash, 4)
        self.assertEqual([[1, 6], [1, 6], [1, 4, 6]], [world.living(), world.up(), world.used()])

    def test_refused(self):
        world = World(SETTING, [0, 1, 4, 6])
        for keep in (-1, -99):
            self.assert_no_deed(world, ("crash", 1, keep), world.crash, 1, keep=keep)
        world.crash(4)
        gone(world, 6)
        for seat in (4, 6, 2, 8, -1):
            self.assert_no_deed(world, ("crash", seat, 0), world.crash, seat)
            self.assert_no_deed(world, ("crash", seat, 5), world.crash, seat, keep=5)

    def test_a_leaver_that_crashes_is_gone(self):
        world = self.pending()
        world.leave(4)
        world.put(1, "b")
        world.tick(asleep=[4])
        before = world.areas_of(4)[0]
        self.assert_deed(world, ("crash", 4, 3), world.crash, 4, keep=3)
        self.assertEqual([[1, 6], [1, 4, 6]], [world.up(), world.used()])
        self.assertEqual(3, len(world.areas_of(4)[0]) - len(before))
        self.assert_no_deed(world, ("revive", 4), world.revive, 4)
        self.assert_no_deed(world, ("crash", 4, 0), world.crash, 4)


class Revive(Deeds):
    def test_done(self):
        world = made()
        world.put(4, "ab")
        world.crash(4)
        self.assert_deed(world, ("revive", 4), world.revive, 4)
        self.assertEqual([[1, 4, 6], [1, 4, 6]], [world.up(), world.living()])
        self.assertEqual([3, "ab", 0], [world.life_of(4), world.worth_of(4), world.beat_of(4)])
        self.assertEqual([(1, 1, "alive", ""), (4, 3, "alive", "ab"), (6, 1, "alive", "")], world.book_of(4).rows())

    def test_several_returns_of_one_seat(self):
        world = made()
        for life in range(2, 7):
            world.crash(4, keep=life)
            world.revive(4)
            self.assertEqual(life, world.life_of(4))
        self.assertEqual(6, len(world.journals()[4]))
        for _ in range(20):
            world.tick()
        for seat in (1, 4, 6):
            self.assertEqual((4, 6, "alive", ""), world.book_of(seat).of(4))

    def test_what_the_disk_kept(self):
        world = made()
        world.put(1, "a")
        world.tick(asleep=[4])
        world.crash(4, keep=5)
        areas = world.areas_of(4)
        world.revive(4)
        self.assertEqual([1, 2], [world.book_of(4).of(1)[1], world.life_of(4)])
        self.assertNotEqual(areas, world.areas_of(4))

    def test_refused(self):
        world = World(SETTING, [0, 1, 4, 6])
        gone(world, 6)
        leaving(world, 1)
        for seat in (0, 1, 6, 2, 8, -1):
            self.assert_no_deed(world, ("revive", seat), world.revive, seat)
        world.crash(4)
        world.revive(4)
        self.assert_no_deed(world, ("revive", 4), world.revive, 4)


class Links(Deeds):
    def passes(self, world):
        """The ordered pairs over which a letter arrives, tried out in a world of the same cuts."""
        cut = []
        for one in range(8):
            for other in range(8):
                if one != other and world.is_cut(one, other):
                    cut.append((one, other))
        return cut

    def test_cut_and_mend(self):
        world = made()
        self.assert_deed(world, ("cut", 1, 4), world.sever, 1, 4)
        self.assertEqual([(1, 4)], self.passes(world))
        # What is cut already is cut once more, and mended once.
        self.assert_deed(world, ("cut", 1, 4), world.sever, 1, 4)
        self.assert_deed(world, ("cut", 4, 1), world.sever, 4, 1)
        self.assertEqual([(1, 4), (4, 1)], self.passes(world))
        self.assert_deed(world, ("mend", 1, 4), world.mend, 1, 4)
        self.assertEqual([(4, 1)], self.passes(world))
        self.assert_deed(world, ("mend", 1, 4), world.mend, 1, 4)
        self.assert_deed(world, ("mend", 0, 7), world.mend, 0, 7)
        self.assertEqual([(4, 1)], self.passes(world))

    def test_seats_that_are_not_used_or_not_up(self):
        world = made()
        world.crash(4)
        for pair in ((0, 7), (4, 1), (1, 4), (2, 1)):
            self.assert_deed(world, ("cut", *pair), world.sever, *pair)
            self.assert_deed(world, ("mend", *pair), world.mend, *pair)

    def test_refused(self):
        world = made()
        for pair in ((1, 1), (0, 0), (8, 1), (1, 8), (-1, 4), (4, -1), (9, 9)):
            self.assert_no_deed(world, ("cut", *pair), world.sever, *pair)
            self.assert_no_deed(world, ("mend", *pair), world.mend, *pair)

    def test_letters_stop_at_a_cut_and_go_on_behind_it(self):
        world = World(Setting(1, 6, 4, helpers=0), [0, 1])
        for deed, passed in ((lambda: world.sever(0, 1), False), (lambda: world.mend(0, 1), True),
                             (lambda: world.divide([0], [1]), False), (world.heal, True),
                             (lambda: world.sever(1, 0), False), (world.heal, True)):
            deed()
            world.tick()
            self.assertEqual({passed}, {row[4] for row in world.tries(world.clock - 1)})

    def test_split(self):
        world = made()
        self.assert_deed(world, ("split", ((4, 0), (1,), (6,))), world.divide, [4, 0], [1], [6])
        groups = [(4, 0), (1,), (6,)]
        told = sorted((a, b) for one in groups for other in groups if one != other for a in one for b in other)
        self.assertEqual(told, self.passes(world))

    def test_split_over_what_is_cut_already(self):
        world = made()
        world.sever(0, 4)
        world.sever(7, 2)
        world.divide([4, 0], [1])
        self.assertEqual([(0, 1), (0, 4), (1, 0), (1, 4), (4, 0), (4, 1), (7, 2)],
                         sorted(self.passes(world) + [(4, 0)]))
        world.divide([1], [2])
        self.assertEqual({(1, 2), (2, 1), (0, 1), (1, 0), (4, 1), (1, 4), (0, 4), (7, 2)}, set(self.passes(world)))
        self.assert_deed(world, ("heal",), world.heal)
        self.assertEqual([], self.passes(world))
        self.assert_deed(world, ("heal",), world.heal)

    def test_split_refused(self):
        world = made()
        for groups in ((), ([1],), ([1, 4],), ([1], []), ([], [1]), ([], []), ([1], [8]), ([-1], [2]), ([1], [1]),
                       ([1, 1], [2]), ([1, 2], [3, 4, 1]), ([1], [2], [])):
            self.assert_no_deed(world, ("split", tuple(map(tuple, groups))), world.divide, *groups)

    def test_the_groups_are_left_as_they_are(self):
        world = made()
        one, other = [6, 1], [4]
        world.divide(one, other)
        one.clear()
        other.append(0)
        self.assertEqual([("split", ((6, 1), (4,)))], world.history())
        self.assertEqual({(1, 4), (4, 1), (6, 4), (4, 6)}, set(self.passes(world)))


class Stray(Deeds):
    def test_a_lost_letter_comes_late(self):
        world = World(SETTING, [0, 4])
        world.put(0, "a")
        world.tick(Scripted({(0, 4, "quick"): 0, (0, 4, "slow"): 0}), asleep=[4])
        self.assertEqual([2, (0, 1, "alive", "")], [world.letters(), world.book_of(4).of(0)])
        self.assert_deed(world, ("stray", 0), world.stray, 0, told=True)
        self.assertEqual([2, (0, 2, "alive", "a")], [world.letters(), world.book_of(4).of(0)])
        self.assertEqual((0, 2, "alive", 0), world.journals()[4][0][-1])
        self.assertEqual([], world.tries()[2:])

    def test_an_old_letter_changes_nothing_but_the_beat(self):
        world = World(SETTING, [0, 4])
        for worth in ("a", "b", "c"):
            world.put(0, worth)
            world.tick()
        rows = [world.book_of(seat).rows() for seat in (0, 4)]
        for index in list(range(world.letters())) * 2:
            self.assertIs(True, world.stray(index))
        self.assertEqual(rows, [world.book_of(seat).rows() for seat in (0, 4)])
        self.assertEqual([3, 3], [world.beat_of(seat) for seat in (0, 4)])

    def test_the_beat(self):
        world = World(SETTING, [0, 4])
        world.divide([0], [4])
        for _ in range(3):
            world.tick(asleep=[4])
        last = [at for at, letter in enumerate(letters_of(world)) if letter.beat == 2][0]
        self.assertEqual(0, world.beat_of(4))
        world.stray(last)
        self.assertEqual(2, world.beat_of(4))

    def test_the_sayings_of_a_slow_call(self):
        world = World(Setting(3, 1, 8, helpers=0), [1, 4])
        world.put(1, "a")
        world.tick(Scripted({(1, 4, "slow"): 0}), asleep=[4])
        self.assertEqual(["sums"], [letter.KIND for letter in letters_of(world)])
        world.stray(0)
        self.assertEqual((1, 2, "alive", "a"), world.book_of(4).of(1))
        self.assertEqual(1, world.letters())

    def test_a_cut_does_not_stop_it(self):
        world = World(SETTING, [0, 4])
        world.put(0, "a")
        world.divide([0], [4])
        world.tick(asleep=[4])
        self.assertIs(True, world.stray(0))
        self.assertEqual((0, 2, "alive", "a"), world.book_of(4).of(0))

    def test_a_receiver_that_is_not_up(self):
        for deed in (lambda world, seat: world.crash(seat), gone):
            world = World(SETTING, [0, 4])
            world.tick(asleep=[4])
            deed(world, 4)
            before = look(world)[:-1]
            self.assert_deed(world, ("stray", 0), world.stray, 0, told=False)
            self.assertEqual(before, look(world)[:-1])

    def test_a_receiver_that_returned_or_is_leaving(self):
        world = World(SETTING, [0, 4])
        world.put(0, "a")
        world.tick(Scripted({(0, 4, "quick"): 0, (0, 4, "slow"): 0}), asleep=[4])
        world.crash(4)
        world.revive(4)
        world.leave(4)
        self.assert_deed(world, ("stray", 0), world.stray, 0, told=True)
        self.assertEqual((0, 2, "alive", "a"), world.book_of(4).of(0))

    def test_refused(self):
        world = made()
        self.assert_no_deed(world, ("stray", 0), world.stray, 0)
        world.tick()
        for index in (world.letters(), world.letters() + 5, -1, -world.letters(), 10 ** 9):
            self.assert_no_deed(world, ("stray", index), world.stray, index)
        self.assertIs(True, world.stray(world.letters() - 1))

    def test_what_others_said_of_oneself_is_answered(self):
        world = World(Setting(3, 1, 8, helpers=0), [0, 4])
        world.tick(Scripted({(0, 4, "slow"): 0}), asleep=[4])
        self.assertEqual((4, 1, "suspect", ""), world.book_of(0).of(4))
        start = world.letters()
        world.tick(Scripted({(0, 4, "slow"): 0}), asleep=[4])
        world.stray(start)
        self.assertEqual((4, 2, "alive", ""), world.book_of(4).of(4))


class Introduce(Deeds):
    def test_two_groups_become_one(self):
        world = World(SETTING, [1, 4], [6])
        self.assert_deed(world, ("introduce", 4, 6), world.introduce, 4, 6)
        self.assertEqual((6, 0, "alive", ""), world.book_of(4).of(6))
        self.assertEqual([(6, 0, "alive", 4)], world.journals()[4][0][2:])
        for _ in range(12):
            world.tick()
        for seat in (1, 4, 6):
            self.assertEqual([(1, 1, "alive", ""), (4, 1, "alive", ""), (6, 1, "alive", "")], world.book_of(seat).rows())

    def test_a_seat_that_is_held_already(self):
        world = made()
        before = look(world)[:-1]
        self.assert_deed(world, ("introduce", 4, 6), world.introduce, 4, 6)
        self.assertEqual(before, look(world)[:-1])

    def test_a_seat_that_is_not_up(self):
        for deed in (gone, lambda world, seat: world.crash(seat), leaving):
            world = World(SETTING, [1, 4], [6])
            deed(world, 6)
            self.assert_deed(world, ("introduce", 4, 6), world.introduce, 4, 6)
            self.assertEqual((6, 0, "alive", ""), world.book_of(4).of(6))

    def test_refused(self):
        world = World(SETTING, [0, 1, 4], [6])
        for other in (2, 7, 8, -1, 0):
            self.assert_no_deed(world, ("introduce", 0, other), world.introduce, 0, other)
        leaving(world, 1)
        world.crash(4)
        for seat in (1, 4, 2, 8, -1):
            self.assert_no_deed(world, ("introduce", seat, 6), world.introduce, seat, 6)
        gone(world, 0)
        self.assert_no_deed(world, ("introduce", 0, 6), world.introduce, 0, 6)
