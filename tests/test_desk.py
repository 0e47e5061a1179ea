"""Points 59 to 63: the desk."""

import random

from livingroll.calm import names_held, settle_bound, settled
from livingroll.desk import Desk
from livingroll.errors import (
    DeedRefused, GroupError, InvalidLine, InvalidSetting, NothingToRedo, NothingToUndo, TooMuch,
)
from livingroll.setting import Setting
from livingroll.world import World
from tests.helpers import NO_INTEGERS, NO_TEXTS, Case
from tests.worlds import Scripted, letters_of, look

SETTING = Setting(3, 2, 8, grace=4, helpers=1)
FOUNDERS = [0, 2, 5]


def desk_of(*lines, setting=SETTING, founders=FOUNDERS, most=200):
    desk = Desk(setting, founders)
    desk.most = most
    for line in lines:
        desk.do(line)
    return desk


def told(desk):
    """All that can be seen of a desk."""
    return (desk.lines(), str(desk), desk.most, desk.show(), look(desk.world()), redone(desk))


def redone(desk):
    """The lines that can be done again, in that order."""
    lines = []
    with desk.trial():
        while True:
            try:
                lines.append(desk.redo())
            except NothingToRedo:
                return lines


class DeskCase(Case):
    def assert_same(self, desk, again=()):
        """The desk shows the same as a new one in which its lines were done."""
        new = desk_of(*desk.lines(), setting=desk.setting, founders=desk.world_founders, most=2000)
        self.assertEqual([new.lines(), str(new), new.show(), look(new.world())],
                         [desk.lines(), str(desk), desk.show(), look(desk.world())])
        self.assertEqual(list(again), redone(desk))

    def made(self, *lines, founders=FOUNDERS, setting=SETTING, most=200):
        desk = desk_of(*lines, setting=setting, founders=founders, most=most)
        desk.world_founders = founders
        return desk

    def assert_unchanged(self, error, value, desk, function, *given):
        before = told(desk)
        self.assert_refused(error, value, function, *given)
        self.assertEqual(before, told(desk))


class Lines(DeskCase):
    def history(self, *lines):
        return desk_of(*lines).world().history()

    def test_each_line(self):
        self.assertEqual([("tick", ())], self.history("tick"))
        self.assertEqual([("join", 7, 0)], self.history("join 7 via 0"))
        self.assertEqual([("leave", 2)], self.history("leave 2"))
        self.assertEqual([("put", 2, "ab")], self.history("put 2 ab"))
        self.assertEqual([("put", 2, "")], self.history("put 2 -"))
        self.assertEqual([("put", 2, "abcdefghij09")], self.history("put 2 abcdefghij09"))
        self.assertEqual([("crash", 2, 0)], self.history("crash 2"))
        self.assertEqual([("crash", 2, 0)], self.history("crash 2 keep 0"))
        self.assertEqual([("crash", 2, 999999)], self.history("crash 2 keep 999999"))
        self.assertEqual([("crash", 2, 0), ("revive", 2)], self.history("crash 2", "revive 2"))
        self.assertEqual([("cut", 1, 7)], self.history("cut 1 7"))
        self.assertEqual([("mend", 1, 7)], self.history("mend 1 7"))
        self.assertEqual([("split", ((5,), (2, 0)))], self.history("split 5 2,0"))
        self.assertEqual([("split", ((1, 2, 3), (4,), (0, 7)))], self.history("split 1,2,3 4 0,7"))
        self.assertEqual([("heal",)], self.history("heal"))
        self.assertEqual([("tick", ()), ("stray", 0)], self.history("tick", "stray 0"))

    def test_do_returns_none(self):
        desk = desk_of()
        for line in ("tick", "join 7 via 0", "put 2 ab", "tick asleep:0", "stray 0", "leave 5", "crash 2", "revive 2",
                     "cut 0 2", "mend 0 2", "split 0 2", "heal"):
            self.assertIsNone(desk.do(line))

    def test_a_world_of_one_group(self):
        world = Desk(SETTING, FOUNDERS).world()
        self.assertEqual([look(World(SETTING, FOUNDERS)), 1], [look(world), world.drift])
        founders = [0, 2]
        desk = Desk(SETTING, founders)
        founders.append(5)
        self.assertEqual([0, 2], desk.world().used())

    def test_the_deeds_are_those_of_the_world(self):
        world = World(SETTING, FOUNDERS)
        desk = desk_of("put 2 ab", "tick", "crash 5 keep 20", "tick asleep:0", "revive 5", "cut 0 2", "tick", "heal",
                       "join 7 via 5", "tick", "stray 3", "leave 0", "tick")
        world.put(2, "ab")
        world.tick()
        world.crash(5, keep=20)
        world.tick(asleep=[0])
        world.revive(5)
        world.sever(0, 2)
        world.tick()
        world.heal()
        world.admit(7, 5)
        world.tick()
        world.stray(3)
        world.leave(0)
        world.tick()
        self.assertEqual(look(world), look(desk.world()))

    def test_wrong_forms(self):
        desk = self.made("tick")
        wrong = [
            "", " ", "tick ", " tick", "tick  asleep:1", "Tick", "TICK", "ticks", "tick 1", "tick asleep", "tick asleep:",
            "tick asleep:8", "tick asleep:01", "tick asleep:-1", "tick asleep:1:2", "tick sleep:1", "tick asleep:a",
            "tick asleep:1 ", "tick Asleep:1", "tick lose:1:quick", "tick lose:1:quick:", "tick lose:1:quick:0:0",
            "tick lose:8:quick:0", "tick lose:1:quack:0", "tick lose:1:Quick:0", "tick lose:1:quick:00",
            "tick lose:1:quick:1000000", "tick lose::quick:0", "tick lose:1::0", "tick lose:1:quick:-1", "tick lose",
            "tick lose:1:ask:0", "tick drop:1:quick:0", "tick 1:quick:0", "tick :1", "tick lose:01:quick:0",
            "join 7 via 0 ", "join 7 0", "join 7 by 0", "join 7 via", "join via 0", "join 7 VIA 0", "join 7 via 00",
            "join 07 via 0", "join 7 via 0 0", "join", "join 7  via 0", "join x via 0", "join 1000000 via 0",
            "leave", "leave 2 2", "leave 02", "leave x", "leave -1", "leave +2", "leave 2.", "leave 1000000", "Leave 2",
            "put 2", "put 2 ", "put 2 A", "put 2 a b", "put 2 abcdefghijklm", "put 2 --", "put 2 a-", "put x a", "put  2 a",
            "put 2 \u00e4", "put 02 a", "put 2  a", "put",
            "crash", "crash 2 keep", "crash 2 keep ", "crash 2 3", "crash 2 keep 03", "crash 2 keep -1",
            "crash 2 keep 1000000", "crash 2 keep 1 1", "crash 2 Keep 1", "crash 02",
            "revive", "revive x", "revive 2 2", "cut 1", "cut 1 2 3", "cut 1,2", "cut 01 2", "mend 1", "mend 1 2 3", "mend 1 x",
            "split", "split 1", "split 1,2", "split 1 ", "split 1 2,", "split ,1 2", "split 1,,2 3", "split 1 02", "split 1 x",
            "split 1  2", "split 1, 2", "split 1 1000000", "heal ", "heal 1", "Heal", "stray", "stray -1", "stray 00",
            "stray 1000000", "stray 1 1", "stray x", "introduce 0 2", "undo", "settle", "tick\n", "heal\n", "tick\theal",
            "put 2 a\n", "leave \u0662", "leave 2\u00a0", "revive", "history", "join 7 via 0\n", "quick 1",
        ]
        for line in wrong:
            self.assert_unchanged(InvalidLine, line, desk, desk.do, line)

    def test_values_that_are_no_string(self):
        desk = self.made("tick")
        for line in (*NO_TEXTS, ["tick"], ("heal",), b"tick"):
            self.assert_unchanged(InvalidLine, line, desk, desk.do, line)

    def test_numbers_of_six_digits(self):
        desk = self.made()
        for line, deed in (("leave 999999", ("leave", 999999)), ("stray 999999", ("stray", 999999)),
                           ("cut 100000 2", ("cut", 100000, 2)), ("split 123456 2,0", ("split", ((123456,), (2, 0)))),
                           ("put 8 a", ("put", 8, "a")), ("join 8 via 0", ("join", 8, 0)), ("mend 9 9", ("mend", 9, 9)),
                           ("revive 8", ("revive", 8)), ("crash 8", ("crash", 8, 0)), ("crash 1 keep 5", ("crash", 1, 5))):
            self.assert_unchanged(DeedRefused, deed, desk, desk.do, line)
        world = desk_of("tick lose:7:probe:999999 asleep:7").world()
        self.assertEqual([("tick", ())], world.history())

    def test_refused_deeds(self):
        desk = self.made("crash 5", "leave 2")
        for line, deed in (("revive 0", ("revive", 0)), ("leave 2", ("leave", 2)), ("put 5 a", ("put", 5, "a")),
                           ("put 1 ab", ("put", 1, "ab")), ("join 0 via 2", ("join", 0, 2)), ("join 1 via 3", ("join", 1, 3)),
                           ("cut 1 1", ("cut", 1, 1)), ("split 1 1", ("split", ((1,), (1,)))), ("stray 0", ("stray", 0)),
                           ("crash 5", ("crash", 5, 0)), ("put 1 -", ("put", 1, ""))):
            self.assert_unchanged(DeedRefused, deed, desk, desk.do, line)


class Ticks(DeskCase):
    """The words of a tick, against a world with losses that do the same."""

    def same(self, line, lost, asleep=(), setting=SETTING, group=(0, 1, 2, 4, 5), before=()):
        desk = desk_of(*before, line, setting=setting, founders=list(group))
        world = World(setting, list(group))
        for row in before:
            world.crash(int(row.split(" ")[1]))
        losses = Scripted({(caller, called, kind): index for caller, kind, index in lost for called in range(8)})
        world.tick(losses, asleep=asleep)
        self.assertEqual(look(world), look(desk.world()))
        return world

    def test_losses_by_caller_and_kind(self):
        world = self.same("tick lose:0:quick:0", [(0, "quick", 0)])
        self.assertEqual([False], [row[4] for row in world.tries() if row[1] == 0 and row[3] == "quick"])
        self.assertEqual(1, len([row for row in world.tries() if not row[4]]))
        self.same("tick lose:0:quick:1", [(0, "quick", 1)])
        self.same("tick lose:2:slow:0 lose:0:slow:1 lose:2:quick:0", [(2, "slow", 0), (0, "slow", 1), (2, "quick", 0)])
        self.same("tick lose:7:quick:0", [])

    def test_each_letter_of_a_slow_call(self):
        setting = Setting(3, 2, 1)
        for index in range(8):
            self.same(f"tick lose:2:slow:{index}", [(2, "slow", index)], setting=setting)

    def test_an_index_that_the_call_does_not_have(self):
        plain = look(desk_of("tick").world())
        for line in ("tick lose:0:quick:2", "tick lose:0:quick:999999", "tick lose:0:slow:999999", "tick lose:0:probe:0"):
            self.assertEqual(plain, look(desk_of(line).world()))

    def test_probes(self):
        # Seat 0 misses seat 4, which is down; each Probe of the tick is lost, whatever the index.
        world = self.same("tick lose:0:probe:0", [(0, "probe", 0)], before=["crash 4"])
        probes = [letter for letter in letters_of(world) if letter.KIND == "probe" and letter.sender == 0]
        self.assertTrue(probes)
        for index in (1, 7, 999999):
            self.same(f"tick lose:0:probe:{index}", [(0, "probe", index)], before=["crash 4"])

    def test_a_caller_and_kind_that_stand_twice(self):
        first = look(desk_of("tick lose:0:quick:0").world())
        for line in ("tick lose:0:quick:0 lose:0:quick:1", "tick lose:0:quick:0 lose:0:slow:999 lose:0:quick:9",
                     "tick lose:0:quick:0 lose:0:quick:0"):
            self.assertEqual(first, look(desk_of(line).world()))
        self.assertNotEqual(first, look(desk_of("tick lose:0:quick:1 lose:0:quick:0").world()))

    def test_sleepers(self):
        self.same("tick asleep:4", [], [4])
        self.same("tick asleep:4 asleep:0", [], [0, 4])
        self.same("tick asleep:4 lose:0:quick:0 asleep:7", [(0, "quick", 0)], [4, 7])
        self.same("tick asleep:4 asleep:4", [], [4])
        self.assertEqual([("tick", (0, 5))], desk_of("tick asleep:5 asleep:1 asleep:0 asleep:5").world().history())

    def test_the_next_tick_loses_nothing(self):
        desk = desk_of("tick lose:0:quick:0", "tick")
        self.assertEqual({True}, {row[4] for row in desk.world().tries(1)})


class Errors(DeskCase):
    def test_their_order(self):
        desk = self.made("tick", "tick", most=2)
        # Wrong and too much; refused and too much; good and too much.
        self.assert_unchanged(InvalidLine, "leave x", desk, desk.do, "leave x")
        self.assert_unchanged(TooMuch, 2, desk, desk.do, "leave 7")
        self.assert_unchanged(TooMuch, 2, desk, desk.do, "tick")
        desk.most = 3
        self.assert_unchanged(InvalidLine, "leave x", desk, desk.do, "leave x")
        self.assert_unchanged(DeedRefused, ("leave", 7), desk, desk.do, "leave 7")
        desk.do("tick")
        self.assert_unchanged(TooMuch, 3, desk, desk.do, "tick")

    def test_more_lines_than_most(self):
        desk = self.made("tick", "tick", "tick")
        desk.most = 1
        self.assert_unchanged(TooMuch, 1, desk, desk.do, "heal")
        desk.undo()
        self.assert_unchanged(TooMuch, 1, desk, desk.do, "heal")
        desk.undo()
        self.assert_unchanged(TooMuch, 1, desk, desk.do, "heal")
        desk.undo()
        desk.do("heal")
        self.assertEqual(["heal"], desk.lines())

    def test_two_hundred_lines_at_first(self):
        desk = Desk(SETTING, FOUNDERS)
        self.assertEqual(200, desk.most)
        for _ in range(200):
            desk.do("heal")
        self.assert_unchanged(TooMuch, 200, desk, desk.do, "heal")


class Undo(DeskCase):
    KINDS = ["put 2 ab", "tick lose:2:quick:0", "join 7 via 0", "tick asleep:0", "cut 0 2", "tick", "mend 0 2", "crash 5 keep 9",
             "tick", "revive 5", "split 0 2,5", "tick", "heal", "stray 2", "leave 0", "tick"]

    def test_every_kind_of_line(self):
        desk = self.made(*self.KINDS)
        for count in range(len(self.KINDS), 0, -1):
            self.assertEqual(self.KINDS[:count], desk.lines())
            self.assertEqual(self.KINDS[count - 1], desk.undo())
            self.assert_same(desk, self.KINDS[count - 1:])
        for count in range(len(self.KINDS)):
            self.assertEqual(self.KINDS[count], desk.redo())
            self.assert_same(desk, self.KINDS[count + 1:])

    def test_nothing_to_undo_and_to_redo(self):
        for desk in (self.made(), self.made("tick", "tick")):
            before = told(desk)
            with self.assertRaises(NothingToRedo):
                desk.redo()
            self.assertEqual(before, told(desk))
            for _ in desk.lines():
                desk.undo()
            before = told(desk)
            with self.assertRaises(NothingToUndo):
                desk.undo()
            self.assertEqual(before, told(desk))

    def test_a_new_line_forgets_what_was_taken_back(self):
        desk = self.made("put 2 a", "put 2 b", "tick")
        desk.undo()
        desk.undo()
        desk.do("put 2 c")
        with self.assertRaises(NothingToRedo):
            desk.redo()
        self.assertEqual(["put 2 a", "put 2 c"], desk.lines())
        self.assert_same(desk)

    def test_a_refused_line_forgets_nothing(self):
        desk = self.made("put 2 a", "crash 5", "tick")
        desk.undo()
        desk.undo()
        for line in ("revive 5", "leave 7", "nonsense", 7):
            with self.assertRaises(GroupError):
                desk.do(line)
        desk.most = 1
        with self.assertRaises(TooMuch):
            desk.do("tick")
        self.assertEqual(["crash 5", "tick"], redone(desk))
        self.assertEqual("crash 5", desk.redo())
        self.assert_same(desk, ["tick"])

    def test_redo_beyond_most(self):
        desk = self.made("put 2 a", "tick", "tick")
        for _ in range(3):
            desk.undo()
        desk.most = 1
        self.assertEqual(["put 2 a", "tick", "tick"], [desk.redo() for _ in range(3)])
        self.assertEqual([3, 1], [len(desk.lines()), desk.most])
        self.assert_same(desk)

    def test_undo_does_not_change_most(self):
        desk = self.made("tick")
        desk.most = 7
        desk.undo()
        self.assertEqual(7, desk.most)
        desk.redo()
        self.assertEqual(7, desk.most)

    def test_lines_are_a_new_list(self):
        desk = self.made("tick")
        desk.lines().clear()
        desk.lines().append("heal")
        self.assertEqual(["tick"], desk.lines())

    def test_drawn(self):
        draw = random.Random(60)
        for _ in range(25):
            desk = self.made()
            standing, taken = [], []
            for _ in range(40):
                word = draw.choice(("do", "do", "do", "undo", "redo"))
                if word == "do":
                    line = drawn_line(draw)
                    try:
                        desk.do(line)
                    except DeedRefused:
                        continue
                    standing.append(line)
                    taken = []
                elif word == "undo" and standing:
                    self.assertEqual(standing[-1], desk.undo())
                    taken.append(standing.pop())
                elif word == "redo" and taken:
                    self.assertEqual(taken[-1], desk.redo())
                    standing.append(taken.pop())
                self.assertEqual(standing, desk.lines())
            self.assert_same(desk, taken[::-1])


def drawn_line(draw):
    seat, other = draw.randrange(8), draw.choice((0, 2, 5))
    return draw.choice((
        "tick", "tick", "tick", f"tick lose:{other}:quick:{draw.randrange(3)}", f"tick lose:{other}:slow:{draw.randrange(3)}",
        f"tick asleep:{other}", f"join {seat} via {other}", f"leave {seat}", f"put {other} {draw.choice(('-', 'a', 'b'))}",
        f"crash {other} keep {draw.randrange(60)}", f"crash {seat}", f"revive {other}", f"cut {seat} {other}",
        f"mend {seat} {other}", f"split {other} {(other + 1) % 8},{(other + 3) % 8}", "heal", f"stray {draw.randrange(30)}",
    ))


class Most(DeskCase):
    def test_values(self):
        desk = self.made()
        self.assertEqual(200, desk.most)
        for value in (1, 2, 1999, 2000):
            desk.most = value
            self.assertEqual(value, desk.most)
            self.assertIsNone(desk.change("most", value))
            self.assertEqual(value, desk.most)

    def test_wrong_values(self):
        desk = self.made()
        for value in (0, -1, 2001, 10 ** 9, "200", "", *NO_INTEGERS):
            with self.assertRaises(InvalidSetting) as caught:
                desk.most = value
            self.assertEqual("most", caught.exception.field)
            self.assert_refused(InvalidSetting, "most", desk.change, "most", value)
            self.assertEqual(200, desk.most)

    def test_another_name(self):
        desk = self.made()
        for name in ("Most", "least", "", "lines", "_most", "setting"):
            for value in (5, "x", 0):
                self.assert_refused(InvalidSetting, name, desk.change, name, value)
        self.assertEqual(200, desk.most)

    def test_it_is_a_property(self):
        self.assertIsInstance(vars(Desk)["most"], property)


class Show(DeskCase):
    def test_up(self):
        desk = self.made("put 2 ab", "tick")
        for text in ("  0 up          1     1 0:-,2:ab,5:-\n", "  2 up          1     2 0:-,2:ab,5:-\n"):
            self.assertIn(text, desk.show())
        self.assertEqual(3, desk.show().count("\n"))

    def test_each_state(self):
        desk = self.made("leave 2", "crash 2", "crash 5", "join 7 via 0", "leave 7")
        self.assertEqual("  0 up          0     1 0:-,2:-,5:-\n  2 gone\n  5 down\n  7 leaving     0     1 0:-\n", desk.show())

    def test_a_seat_that_is_gone_behind_a_tick(self):
        desk = self.made("leave 1", setting=Setting(1, 1, 4), founders=[0, 1])
        self.assertEqual("  0 up          0     1 0:-,1:-\n  1 leaving     0     1 0:-\n", desk.show())
        desk.do("tick")
        self.assertEqual("  0 up          1     1 0:-\n  1 gone\n", desk.show())

    def test_an_empty_roll(self):
        desk = self.made("leave 3", founders=[3])
        self.assertEqual("  3 leaving     0     1 \n", desk.show())

    def test_long_rolls_and_seats_of_three_digits(self):
        setting = Setting(8, 1, 64)
        founders = list(range(0, 256, 5))
        desk = self.made("put 255 abcdefghij09", setting=setting, founders=founders)
        rows = desk.show().split("\n")
        self.assertEqual(len(founders) + 1, len(rows))
        roll = ",".join(f"{seat}:-" for seat in founders[:-1])
        self.assertEqual("255 up          0     2 " + roll + ",255:abcdefghij09", rows[-2])
        self.assertEqual(" 10 up          0     1 " + roll + ",255:-", rows[2])

    def test_numbers_longer_than_their_columns(self):
        # The beat and the life are written whole; a desk itself does not come so far in a test.
        class Far(World):
            def life_of(self, seat):
                return 1234567

            def beat_of(self, seat):
                return 98765432 if seat == 0 else 99999

        from livingroll.desk import seat_line
        world = Far(SETTING, [0, 2])
        self.assertEqual("  0 up      98765432 1234567 0:-,2:-\n", seat_line(world, 0))
        self.assertEqual("  2 up      99999 1234567 0:-,2:-\n", seat_line(world, 2))

    def test_str(self):
        desk = self.made()
        self.assertEqual("0 lines, clock 0", str(desk))
        desk.do("tick")
        self.assertEqual("1 lines, clock 1", str(desk))
        for line in ("heal", "tick asleep:0", "put 0 tick", "tick lose:0:quick:0"):
            desk.do(line)
        self.assertEqual("5 lines, clock 3", str(desk))
        desk.undo()
        self.assertEqual("4 lines, clock 2", str(desk))
        self.assertEqual(desk.world().clock, 2)


class Tried(DeskCase):
    def desk(self):
        desk = self.made("put 2 a", "tick", "put 0 z")
        desk.undo()
        desk.most = 5
        return desk

    def assert_kept(self, desk, function, *given):
        before = told(desk)
        self.assertEqual(["put 0 z"], redone(desk))
        result = function(*given)
        self.assertEqual(before, told(desk))
        return result

    def test_no_lines(self):
        desk = self.desk()
        self.assertEqual(desk.show(), self.assert_kept(desk, desk.tried, []))

    def test_good_lines(self):
        desk = self.desk()
        lines = ["crash 5", "tick", "join 7 via 2"]
        shown = self.assert_kept(desk, desk.tried, lines)
        self.assertEqual(desk_of("put 2 a", "tick", *lines).show(), shown)
        self.assertEqual(["crash 5", "tick", "join 7 via 2"], lines)

    def test_a_line_that_is_refused_in_the_middle(self):
        desk = self.desk()
        for lines, error, value in ((["tick", "leave 7", "nonsense"], DeedRefused, ("leave", 7)),
                                    (["tick", "nonsense", "leave 7"], InvalidLine, "nonsense"),
                                    (["tick", None], InvalidLine, None),
                                    (["tick", "tick", "tick", "tick", "x"], TooMuch, 5),
                                    (["leave 2", "put 2 a"], DeedRefused, ("put", 2, "a"))):
            before = told(desk)
            self.assert_refused(error, value, desk.tried, lines)
            self.assertEqual(before, told(desk))

    def test_undo_and_redo_behind_it(self):
        desk = self.desk()
        desk.tried(["crash 5"])
        self.assertEqual("put 0 z", desk.redo())
        self.assertEqual(["put 0 z", "tick", "put 2 a"], [desk.undo() for _ in range(3)])
        with self.assertRaises(DeedRefused):
            desk.tried(["revive 5"])
        self.assertEqual(["put 2 a", "tick", "put 0 z"], [desk.redo() for _ in range(3)])
        self.assert_same(desk)


class Trials(DeskCase):
    def desk(self):
        desk = self.made("put 2 a", "tick", "put 0 z")
        desk.undo()
        return desk

    def test_without_an_error(self):
        desk = self.desk()
        before = told(desk)
        with desk.trial() as same:
            self.assertIs(desk, same)
            self.assertEqual(["put 2 a", "tick"], desk.lines())
            desk.do("crash 5")
            desk.do("tick")
            self.assertEqual(["put 2 a", "tick", "crash 5", "tick"], desk.lines())
            self.assertIn("  5 down\n", desk.show())
            self.assertEqual([0, 2], desk.world().up())
        self.assertEqual(before, told(desk))

    def test_an_empty_block(self):
        desk = self.desk()
        before = told(desk)
        with desk.trial():
            pass
        self.assertEqual(before, told(desk))

    def test_with_an_error(self):
        desk = self.desk()
        before = told(desk)
        for error, line in ((DeedRefused, "leave 7"), (InvalidLine, "x")):
            with self.assertRaises(error):
                with desk.trial() as same:
                    same.do("tick")
                    same.do(line)
            self.assertEqual(before, told(desk))
        for error in (KeyError, ZeroDivisionError, KeyboardInterrupt):
            with self.assertRaises(error):
                with desk.trial():
                    desk.do("crash 2")
                    raise error
            self.assertEqual(before, told(desk))

    def test_left_by_return_and_break(self):
        desk = self.desk()
        before = told(desk)

        def shown():
            with desk.trial() as same:
                same.do("crash 5")
                return same.show()

        self.assertIn("  5 down\n", shown())
        for _ in range(2):
            with desk.trial():
                desk.do("tick")
                break
        self.assertEqual(before, told(desk))

    def test_undo_redo_and_most_inside(self):
        desk = self.desk()
        before = told(desk)
        with desk.trial():
            self.assertEqual("put 0 z", desk.redo())
            self.assertEqual(["put 0 z", "tick", "put 2 a"], [desk.undo() for _ in range(3)])
            desk.most = 1
            desk.do("heal")
            with self.assertRaises(TooMuch):
                desk.do("heal")
            desk.change("most", 7)
            self.assertEqual(7, desk.most)
        self.assertEqual(before, told(desk))
        self.assertEqual(200, desk.most)

    def test_nested(self):
        desk = self.desk()
        before = told(desk)
        with desk.trial() as one:
            one.do("crash 5")
            inner = told(desk)
            with desk.trial() as other:
                other.do("revive 5")
                other.most = 9
                with self.assertRaises(DeedRefused):
                    with other.trial():
                        other.undo()
                        other.undo()
                        other.do("revive 5")
                self.assertEqual(["put 2 a", "tick", "crash 5", "revive 5"], desk.lines())
                self.assertEqual(9, desk.most)
            self.assertEqual(inner, told(desk))
            self.assertIn("  5 down\n", desk.tried(["tick"]))
            self.assertEqual(inner, told(desk))
        self.assertEqual(before, told(desk))

    def test_one_context_used_again(self):
        desk = self.desk()
        trial = desk.trial()
        before = told(desk)
        for _ in range(2):
            with trial:
                desk.do("tick")
                with trial:
                    desk.do("heal")
                    self.assertEqual(4, len(desk.lines()))
                self.assertEqual(3, len(desk.lines()))
            self.assertEqual(before, told(desk))
        desk.do("tick")
        with trial:
            self.assertEqual(3, len(desk.lines()))
            desk.undo()
        self.assertEqual(["put 2 a", "tick", "tick"], desk.lines())

    def test_what_the_desk_does_behind_it(self):
        desk = self.desk()
        with desk.trial():
            desk.do("crash 2")
        desk.do("put 2 b")
        self.assertEqual(["put 2 a", "tick", "put 2 b"], desk.lines())
        self.assert_same(desk)


class OwnWorld(DeskCase):
    def test_it_is_equal(self):
        desk = self.made(*Undo.KINDS)
        self.assertEqual(look(desk.world()), look(desk.world()))
        self.assertIsInstance(desk.world(), World)
        self.assertIsNot(desk.world(), desk.world())

    def test_what_is_done_to_it_does_not_change_the_desk(self):
        desk = self.made("put 2 a", "tick")
        before = told(desk)
        world = desk.world()
        world.crash(2)
        world.tick()
        world.admit(7, 0)
        self.assertEqual(before, told(desk))
        desk.do("put 2 b")
        self.assert_same(desk)

    def test_what_the_desk_does_later_does_not_change_it(self):
        desk = self.made("put 2 a", "tick")
        world = desk.world()
        before = look(world)
        desk.do("crash 2")
        desk.do("tick")
        desk.undo()
        self.assertEqual(before, look(world))

    def test_inside_a_trial(self):
        desk = self.made("tick")
        with desk.trial():
            desk.do("crash 2")
            world = desk.world()
        self.assertEqual([[0, 5], [0, 2, 5]], [world.up(), desk.world().up()])


class Settle(DeskCase):
    SETTING = Setting(3, 1, 8, grace=3)

    def desk(self, *lines, founders=FOUNDERS):
        return self.made(*lines, setting=self.SETTING, founders=founders)

    def test_the_number_of_lines(self):
        for lines in ([], ["put 2 a"], ["crash 5"], ["join 7 via 2"], ["crash 5", "revive 5"], ["cut 7 1"], ["cut 5 2", "crash 5"]):
            desk = self.desk(*lines)
            world = desk.world()
            ticks = settle_bound(self.SETTING, names_held(world), len(world.living()))
            self.assertIs(True, desk.settle())
            self.assertEqual(lines + ["tick"] * ticks, desk.lines())
            self.assertTrue(settled(desk.world()))
            self.assert_same(desk)

    def test_undo_behind_it(self):
        desk = self.desk("put 2 a", "tick")
        desk.undo()
        desk.settle()
        many = len(desk.lines())
        with self.assertRaises(NothingToRedo):
            desk.redo()
        self.assertEqual("tick", desk.undo())
        self.assertEqual(many - 1, len(desk.lines()))
        self.assertEqual("tick", desk.redo())
        for _ in range(many - 1):
            desk.undo()
        self.assertEqual(["put 2 a"], desk.lines())
        self.assert_same(desk, ["tick"] * (many - 1))

    def test_nobody_lives(self):
        desk = self.desk(*[f"crash {seat}" for seat in FOUNDERS])
        self.assertIs(True, desk.settle())
        self.assertEqual(3 + self.SETTING.grace, len(desk.lines()))

    def test_a_cut_between_living_members(self):
        for lines in (["cut 0 2"], ["cut 5 0"], ["split 0 5"], ["split 1,0,2 3,5"]):
            desk = self.desk(*lines)
            self.assert_unchanged(DeedRefused, ("settle",), desk, desk.settle)
            desk.do("heal")
            self.assertIs(True, desk.settle())

    def test_cuts_to_others(self):
        for lines in (["cut 0 1"], ["split 0,2,5 1,3,7"], ["crash 5", "cut 5 0", "cut 2 5"]):
            self.assertIs(True, self.desk(*lines).settle())

    def test_a_member_that_is_leaving(self):
        desk = self.desk("leave 2")
        self.assert_unchanged(DeedRefused, ("settle",), desk, desk.settle)
        while "leaving" in desk.show():
            desk.do("tick")
        self.assertIs(True, desk.settle())
        desk = self.desk("leave 2", "crash 2")
        self.assertIs(True, desk.settle())

    def test_members_that_are_not_linked(self):
        # The joiner knows its sponsor alone, and nobody knows the joiner.
        desk = self.desk("join 7 via 5", "crash 5")
        self.assert_unchanged(DeedRefused, ("settle",), desk, desk.settle)
        desk.do("revive 5")
        self.assertIs(True, desk.settle())

    def test_too_much(self):
        desk = self.desk("put 2 a")
        world = desk.world()
        ticks = settle_bound(self.SETTING, names_held(world), 3)
        desk.most = ticks
        self.assert_unchanged(TooMuch, ticks, desk, desk.settle)
        desk.undo()
        self.assertEqual(["put 2 a"], redone(desk))
        desk.redo()
        desk.most = ticks + 1
        self.assertIs(True, desk.settle())
        self.assertEqual(ticks + 1, len(desk.lines()))
        self.assert_unchanged(TooMuch, ticks + 1, desk, desk.settle)

    def test_the_order_of_the_grounds(self):
        for lines in (["cut 0 2"], ["leave 2"], ["join 7 via 5", "crash 5"]):
            desk = self.desk(*lines)
            desk.most = 2
            self.assert_unchanged(DeedRefused, ("settle",), desk, desk.settle)

    def test_in_a_trial(self):
        desk = self.desk("put 2 a")
        before = told(desk)
        with desk.trial():
            self.assertIs(True, desk.settle())
        self.assertEqual(before, told(desk))
