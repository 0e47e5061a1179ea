"""Points 40 to 42: new worlds, ticks, and the calls letter by letter."""

import unittest

from livingroll.exchange import item_bound
from livingroll.losses import DrawnLosses, Losses
from livingroll.setting import Setting
from livingroll.world import World
from tests.worlds import Scripted, letters_of, look, routes

SETTING = Setting(3, 1, 8, helpers=0)
GROUP = [1, 4, 6]


def rows_of(seats):
    return [(seat, 1, "alive", "") for seat in seats]


class NewWorld(unittest.TestCase):
    def test_one_group(self):
        world = World(SETTING, GROUP)
        self.assertEqual([0, GROUP, GROUP, GROUP], [world.clock, world.used(), world.living(), world.up()])
        self.assertEqual([0, [], [], 1], [world.letters(), world.tries(), world.history(), world.drift])
        for seat in GROUP:
            self.assertEqual(rows_of(GROUP), world.book_of(seat).rows())
            self.assertEqual([[1, 0, ""], [(1, ""), (4, ""), (6, "")]], [
                [world.life_of(seat), world.beat_of(seat), world.worth_of(seat)], world.roll_of(seat)])
        self.assertEqual({seat: [[(other, 1, "alive", None) for other in GROUP]] for seat in GROUP}, world.journals())

    def test_several_groups_know_nothing_of_one_another(self):
        world = World(SETTING, [1, 6], [3], [0, 2, 7])
        self.assertEqual([0, 1, 2, 3, 6, 7], world.used())
        for group in ([1, 6], [3], [0, 2, 7]):
            for seat in group:
                self.assertEqual(rows_of(group), world.book_of(seat).rows())
        for _ in range(20):
            world.tick()
        for group in ([1, 6], [3], [0, 2, 7]):
            for seat in group:
                self.assertEqual(rows_of(group), world.book_of(seat).rows())

    def test_groups_of_one_seat(self):
        world = World(Setting(1, 2, 4), [1], [0])
        losses = Losses()
        for _ in range(5):
            world.tick(losses)
        self.assertEqual([5, 0, [], 0], [world.clock, world.letters(), world.tries(), losses.asked])
        self.assertEqual([5, 5], [world.beat_of(0), world.beat_of(1)])

    def test_drift(self):
        for drift in (1, 6):
            self.assertEqual(drift, World(SETTING, GROUP, drift=drift).drift)
        told = []
        for drift in (1, 6):
            world = World(SETTING, GROUP, drift=drift)
            for _ in range(5):
                world.tick()
            told.append(look(world))
        self.assertEqual(told[0], told[1])

    def test_the_lists_of_the_groups_are_copied(self):
        group, other = [1, 4], [2]
        world = World(SETTING, group, other)
        group.append(6)
        other.clear()
        self.assertEqual([[1, 2, 4], rows_of([1, 4])], [world.used(), world.book_of(4).rows()])


class Ticks(unittest.TestCase):
    def test_the_order_of_the_calls(self):
        world = World(SETTING, GROUP)
        self.assertIsNone(world.tick())
        calls = [(1, 6, "quick"), (1, 4, "slow"), (4, 1, "quick"), (4, 6, "slow"), (6, 4, "quick"), (6, 1, "slow")]
        self.assertEqual([(0, *call, True) for call in calls], world.tries())
        told = [(letter.sender, letter.receiver) for letter in letters_of(world) if letter.KIND in ("ask", "sums")]
        told = [pair for at, pair in enumerate(told) if pair not in told[:at] and pair[::-1] not in told[:at]]
        self.assertEqual([(1, 6), (1, 4), (4, 6)], told)

    def test_each_call_is_done_whole_with_the_books_as_they_are_then(self):
        world = World(SETTING, GROUP)
        world.put(1, "a")
        world.tick(asleep=[4, 6])
        # Seat 1 called 6 quickly and 4 slowly; both know what it shows.
        self.assertEqual([(1, 2, "alive", "a")] * 3, [world.book_of(seat).of(1) for seat in GROUP])
        world = World(SETTING, GROUP)
        world.put(6, "b")
        world.tick(Scripted({(1, 6, "quick"): 1, (1, 4, "slow"): 1}))
        # Seat 6 calls last, but 4 called it before and 1 heard of nobody that knew.
        letters = [letter for letter in letters_of(world) if (6, 2, "alive", "b") in letter.sayings]
        self.assertEqual((6, 1), (letters[0].sender, letters[0].receiver))
        self.assertEqual([(6, 2, "alive", "b")] * 3, [world.book_of(seat).of(6) for seat in GROUP])

    def test_the_rounds_end_behind_all_calls(self):
        world = World(SETTING, GROUP)
        world.tick()
        self.assertEqual([0] * world.letters(), [letter.beat for letter in letters_of(world)])
        self.assertEqual([1, 1, 1], [world.beat_of(seat) for seat in GROUP])

    def test_sleepers_answer_and_call_nobody(self):
        world = World(SETTING, GROUP)
        world.put(1, "a")
        world.tick(asleep=[4])
        self.assertEqual({1, 6}, {row[1] for row in world.tries()})
        self.assertIn(("sums", 4, 1), routes(letters_of(world)))
        self.assertEqual((1, 2, "alive", "a"), world.book_of(4).of(1))
        self.assertEqual([1, 0, 1], [world.beat_of(seat) for seat in GROUP])
        world.tick(asleep=[4])
        # It ended no round, and heard beat 1.
        self.assertEqual([2, 1, 2], [world.beat_of(seat) for seat in GROUP])
        world.tick(asleep=GROUP)
        self.assertEqual([2, 1, 2], [world.beat_of(seat) for seat in GROUP])
        self.assertEqual([3, ("tick", (1, 4, 6))], [world.clock, world.history()[-1]])

    def test_a_sleeper_counts_no_round_of_a_suspicion(self):
        setting = Setting(3, 1, 8, grace=3, helpers=0)
        world = World(setting, [1, 4, 6])
        world.crash(6)
        world.divide([1], [4])
        world.tick(asleep=[1])
        for _ in range(6):
            world.tick(asleep=[4])
        self.assertEqual(["suspect", "dead"], [world.book_of(seat).of(6)[2] for seat in (4, 1)])
        world.tick(asleep=[1])
        self.assertEqual("suspect", world.book_of(4).of(6)[2])
        world.tick(asleep=[1])
        self.assertEqual("dead", world.book_of(4).of(6)[2])

    def test_sleepers_that_are_not_up(self):
        world = World(Setting(3, 1, 8), [0, 1, 4, 6])
        world.crash(4)
        world.leave(6)
        world.crash(6)
        for asleep, told in (([4], (4,)), ([6, 4], (4, 6)), ([5, 2], ()), ([99, -1, 8], ()), ((6, 5, 1, 99, 4), (1, 4, 6))):
            given = list(asleep)
            world.tick(asleep=asleep)
            self.assertEqual(("tick", told), world.history()[-1])
            self.assertEqual(given, list(asleep))
            callers = {row[1] for row in world.tries(world.clock - 1)}
            self.assertEqual({0} if 1 in asleep else {0, 1}, callers | {0})

    def test_sleepers_as_a_list_and_as_a_tuple_in_any_order(self):
        told = []
        for asleep in ([6, 1], (1, 6), (6, 1), [1, 6]):
            world = World(SETTING, GROUP)
            world.tick(asleep=asleep)
            told.append(look(world))
        self.assertEqual([told[0]] * 4, told)
        self.assertEqual([("tick", (1, 6))], told[0][-1])

    def test_a_member_that_told_enough_is_gone_at_the_end(self):
        world = World(Setting(1, 1, 4), [0, 1])
        world.leave(1)
        self.assertEqual([[0], [0, 1]], [world.living(), world.up()])
        world.tick()
        self.assertEqual([[0], [0], [0, 1]], [world.living(), world.up(), world.used()])
        self.assertEqual((1, 1, "left", ""), world.book_of(0).of(1))

    def test_a_member_that_left_long_ago_is_gone_at_the_end(self):
        world = World(Setting(2, 2, 4), [3])
        world.leave(3)
        for _ in range(8):
            self.assertEqual([3], world.up())
            world.tick()
        self.assertEqual([[], [3], 8], [world.up(), world.used(), world.clock])
        world.tick()
        self.assertEqual(9, world.clock)

    def test_a_leaver_that_sleeps_stays(self):
        world = World(Setting(2, 1, 4), [3])
        world.leave(3)
        for _ in range(9):
            world.tick(asleep=[3])
        self.assertEqual([3], world.up())

    def test_losses_that_are_none(self):
        told = []
        for losses in (None, Losses(), DrawnLosses([]), DrawnLosses([0])):
            world = World(SETTING, GROUP)
            world.put(4, "x")
            for _ in range(6):
                world.tick(losses)
            told.append(look(world))
        self.assertEqual([told[0]] * 4, told)


class Quick(unittest.TestCase):
    """Seat 0 calls 4 at beat 0; seat 4 sleeps. The slow call that follows is lost."""

    def world(self, setting=SETTING, lost=None, before=()):
        world = World(setting, [0, 4])
        world.put(0, "a")
        world.put(4, "b")
        for deed in before:
            deed(world)
        losses = Scripted({(0, 4, "quick"): lost, (0, 4, "slow"): 0})
        world.tick(losses, asleep=[4])
        self.assertEqual([(0, 4, "quick"), (0, 4, "slow")], losses.calls[:1] + losses.calls[-1:])
        return world

    def assert_told(self, world, sent, heard, passed):
        """So many letters of the quick call were sent, these seats heard of the other one."""
        told = [letter for letter in letters_of(world) if letter.KIND in ("ask", "answer")]
        self.assertEqual([("ask", 0, 4), ("answer", 4, 0)][:sent], routes(told))
        self.assertEqual((0, 0, 4, "quick", passed), world.tries()[0])
        known = [seat for seat, other in ((0, 4), (4, 0)) if seat in world.up() and world.book_of(seat).of(other)[1] == 2]
        self.assertEqual(heard, known)

    def test_nothing_is_lost(self):
        for lost in (None, 2, 3, 99):
            self.assert_told(self.world(lost=lost), 2, [0, 4], True)

    def test_the_ask_is_lost(self):
        self.assert_told(self.world(lost=0), 1, [], False)

    def test_the_answer_is_lost(self):
        self.assert_told(self.world(lost=1), 2, [4], False)

    def test_the_target_is_down(self):
        world = self.world(before=[lambda world: world.crash(4)])
        self.assert_told(world, 1, [], False)

    def test_the_link_is_cut_in_one_direction(self):
        self.assert_told(self.world(before=[lambda world: world.sever(0, 4)]), 1, [], False)
        self.assert_told(self.world(before=[lambda world: world.sever(4, 0)]), 2, [4], False)

    def test_there_is_no_target(self):
        world = World(SETTING, [4, 5])
        losses = Losses()
        world.tick(losses, asleep=[5])
        # Seat 5 is one step away from 4: too near for the offset of beat 0.
        self.assertEqual([(0, 4, 5, "slow", True)], world.tries())
        self.assertEqual(1, losses.asked)

    def test_the_letters(self):
        world = self.world()
        ask, answer = letters_of(world)[:2]
        own = [(0, 2, "alive", "a"), (4, 1, "alive", "")]
        self.assertEqual(("ask", 0, 4, 0, 1, tuple(own)), ask.parts())
        self.assertEqual(("answer", 4, 0, 0, 1, ((4, 2, "alive", "b"), own[0])), answer.parts())

    def test_misses(self):
        # The second miss of a kind in a row makes the seat suspect; each kind counts for itself.
        setting = Setting(3, 2, 8, helpers=0)
        for quick, slow, marks in (([0, 0], [None, None], ["alive", "alive"]), ([0, 0], [0, 0], ["alive", "suspect"]),
                                   ([1, 1], [1, 1], ["alive", "suspect"]), ([0, 0], [2, 2], ["alive", "alive"]),
                                   ([None, 0], [0, 0], ["alive", "suspect"]), ([0, None], [0, 0], ["alive", "alive"])):
            world = World(setting, [0, 4])
            losses = Scripted({(0, 4, "quick"): quick, (0, 4, "slow"): slow})
            told = []
            for _ in range(2):
                world.tick(losses, asleep=[4])
                told.append(world.book_of(0).of(4)[2])
            self.assertEqual(marks, told, (quick, slow))

    def test_patience_calls_without_an_answer(self):
        for patience in range(1, 7):
            world = World(Setting(1, patience, 8, helpers=0), [0, 1])
            world.crash(1)
            for at in range(1, patience + 1):
                self.assertEqual((1, 1, "alive", ""), world.book_of(0).of(1))
                world.tick()
            self.assertEqual((1, 1, "suspect", ""), world.book_of(0).of(1))
            self.assertEqual((1, 1, "suspect", 0), world.journals()[0][0][-1])


class Slow(unittest.TestCase):
    """Seat 1 calls 4, which sleeps and is too near for a quick call at beat 0."""

    def world(self, setting=SETTING, losses=None, before=(), group=(1, 4)):
        world = World(setting, list(group))
        for deed in before:
            deed(world)
        world.tick(losses, asleep=[seat for seat in group if seat != 1])
        return world

    def many(self, losses=None, before=()):
        """A call with room 1, in which the books differ in both seats; it has 24 letters."""
        deeds = [lambda world: world.put(1, "a"), lambda world: world.put(4, "b"), *before]
        return self.world(Setting(3, 1, 1, helpers=0), losses, deeds)

    def test_a_call_between_equal_books(self):
        world = self.world()
        greetings = ((1, 1, "alive", ""), (4, 1, "alive", ""))
        sums = ((0, 8, 10, 35, 145), *[(seat, 1, rank, rank, rank) for seat, rank in enumerate([0, 5, 0, 0, 5, 0, 0, 0])])
        self.assertEqual([
            ("sums", 1, 4, 0, 1, greetings, sums[:8], 0, True), ("sums", 4, 1, 0, 1, greetings[::-1], (), 1, False),
            ("sums", 1, 4, 0, 1, greetings, sums[8:], 2, False), ("sums", 4, 1, 0, 1, greetings[::-1], (), 3, False),
        ], [letter.parts() for letter in letters_of(world)])

    def test_it_goes_on_until_both_have_nothing_left(self):
        world = World(Setting(3, 1, 9, helpers=0), [1, 4])
        world.tick(asleep=[4])
        self.assertEqual([(0, True, 9), (1, True, 0)], [(row.position, not row.more, len(row.sums)) for row in letters_of(world)])
        world = self.world()
        self.assertEqual([(0, 1, 4, "slow", True)], world.tries())
        world = World(Setting(3, 1, 8, helpers=0), [1, 4])
        world.put(1, "a")
        world.tick(asleep=[4])
        told = letters_of(world)
        self.assertGreater(len(told), 2)
        self.assertEqual(0, len(told) % 2)

    def test_positions_numbers_and_more(self):
        world = self.many()
        letters = letters_of(world)
        self.assertEqual(list(range(len(letters))), [letter.position for letter in letters])
        self.assertEqual({(1, 4), (4, 1)}, {(letter.sender, letter.receiver) for letter in letters})
        self.assertEqual([1, 4] * (len(letters) // 2), [letter.sender for letter in letters])
        self.assertEqual({1}, {letter.number for letter in letters})
        for seat in (1, 4):
            told = [letter for letter in letters if letter.sender == seat]
            for letter, further in zip(told, told[1:]):
                if letter.more:
                    self.assertTrue(further.size > 2, further.parts())
        # The last one of each says so.
        self.assertEqual([False, False], [letter.more for letter in letters[-2:]])
        self.assertIn(True, [letter.more for letter in letters])

    def test_the_greetings_stand_in_every_letter(self):
        world = self.many()
        letters = letters_of(world)
        self.assertEqual([(1, 2, "alive", "a"), (4, 1, "alive", "")], letters[0].sayings)
        for letter in letters[1:]:
            own, other = (1, 2, "alive", "a"), (4, 2, "alive", "b")
            rows = [own, other] if letter.sender == 1 else [other, own]
            self.assertEqual(rows, letter.sayings[:2])
            self.assertLessEqual(letter.size, 3)

    def test_the_sayings_of_the_queue_stand_behind_the_greetings(self):
        world = World(Setting(3, 1, 4, helpers=0), [1, 4])
        world.admit(0, 4)
        world.tick(asleep=[1, 4])
        self.assertEqual([None, (0, 1, "alive", "")], [world.book_of(seat).of(0) for seat in (1, 4)])
        start = world.letters()
        world.tick(asleep=[0, 4])
        told = letters_of(world, start)
        greetings = [(4, 1, "alive", ""), (1, 1, "alive", "")]
        self.assertEqual([greetings[::-1], [*greetings, (0, 1, "alive", "")]], [letter.sayings for letter in told[:2]])
        self.assertEqual([(0, 4), (4, 4)], [row[:2] for row in told[1].sums])
        self.assertEqual((0, 1, "alive", ""), world.book_of(1).of(0))

    def test_a_saying_may_stand_twice(self):
        # What 4 holds about itself is told as a greeting and once more because of its own range.
        world = self.world(Setting(3, 1, 64, helpers=0), before=[lambda world: world.put(4, "b")])
        twice = [letter for letter in letters_of(world) if len(set(letter.sayings)) < len(letter.sayings)]
        self.assertTrue(twice)
        for letter in twice:
            self.assertIn((4, 2, "alive", "b"), letter.sayings[2:])

    def test_each_letter_is_lost_in_turn(self):
        whole = letters_of(self.many())
        for lost in range(len(whole) + 2):
            losses = Scripted({(1, 4, "slow"): lost})
            world = self.many(losses)
            passed = lost >= len(whole)
            self.assertEqual([(0, 1, 4, "slow", passed)], world.tries())
            self.assertEqual(min(lost + 1, len(whole)), world.letters())
            self.assertEqual([letter.parts() for letter in whole[:lost + 1]],
                             [letter.parts() for letter in letters_of(world)])
            # With patience 1 a call without an answer makes the seat suspect.
            self.assertEqual("suspect" if lost < 2 else "alive", world.book_of(1).of(4)[2])
            self.assertEqual([(1, 4, "slow")], losses.calls)

    def test_a_lost_letter_is_not_received(self):
        world = self.many(Scripted({(1, 4, "slow"): 0}))
        self.assertEqual((1, 1, "alive", ""), world.book_of(4).of(1))
        world = self.many(Scripted({(1, 4, "slow"): 1}))
        self.assertEqual([(1, 2, "alive", "a"), (4, 1, "suspect", "")], [world.book_of(4).of(1), world.book_of(1).of(4)])
        world = self.many(Scripted({(1, 4, "slow"): 2}))
        self.assertEqual((4, 2, "alive", "b"), world.book_of(1).of(4))

    def test_a_link_is_cut_in_each_direction(self):
        for link, sent in (((1, 4), 1), ((4, 1), 2)):
            world = self.many(before=[lambda world: world.sever(*link)])
            self.assertEqual([sent, [(0, 1, 4, "slow", False)]], [world.letters(), world.tries()])
            self.assertEqual("suspect", world.book_of(1).of(4)[2])
            self.assertEqual(2 if sent == 2 else 1, world.book_of(4).of(1)[1])

    def test_the_target_is_down(self):
        losses = Losses()
        world = self.many(losses, before=[lambda world: world.crash(4)])
        self.assertEqual([1, 1, [(0, 1, 4, "slow", False)]], [world.letters(), losses.asked, world.tries()])

    def test_the_greater_beat_is_taken(self):
        world = World(SETTING, [1, 4])
        for _ in range(3):
            world.tick(asleep=[1])
        # Seat 4 called 1 in beat 2 at last.
        self.assertEqual([2, 3], [world.beat_of(1), world.beat_of(4)])
        world = World(SETTING, [1, 4])
        world.divide([1], [4])
        for _ in range(3):
            world.tick(asleep=[1])
        world.heal()
        self.assertEqual([0, 3], [world.beat_of(1), world.beat_of(4)])
        start = world.letters()
        world.tick(asleep=[4])
        told = letters_of(world, start)
        self.assertEqual([("sums", 0), ("sums", 3)], [(letter.KIND, letter.beat) for letter in told[:2]])
        self.assertEqual([4, 3], [world.beat_of(1), world.beat_of(4)])

    def test_what_is_taken_is_learned_with_the_sender_as_source(self):
        world = self.many()
        journals = world.journals()
        self.assertEqual([(1, 2, "alive", 1), (4, 2, "alive", 4)], journals[1][0][2:])
        self.assertEqual([(4, 2, "alive", 4), (1, 2, "alive", 1)], journals[4][0][2:])
        self.assertEqual(world.book_of(1).rows(), world.book_of(4).rows())

    def test_items_are_bounded(self):
        for room in (1, 2, 5):
            setting = Setting(3, 1, room, helpers=0)
            world = World(setting, [0, 1, 4, 6, 7])
            for seat in (0, 4, 6, 7):
                world.put(seat, "x")
            world.tick(Scripted({(1, seat, "quick"): 0 for seat in (0, 4, 6, 7)}), asleep=[0, 4, 6, 7])
            told = [letter for letter in letters_of(world) if letter.KIND == "sums"]
            items = sum(letter.size for letter in told) - sum(2 for letter in told)
            self.assertLessEqual(items, item_bound(setting, 5 + 2) + 3)


class Stripes(unittest.TestCase):
    SETTING = Setting(3, 2, 3, helpers=0)

    def stripe(self, world, start):
        """The seats of the single sums that the first caller of a tick begins its slow call with."""
        told = [letter for letter in letters_of(world, start) if letter.KIND == "sums"]
        return [row[0] for letter in told if letter.sender == told[0].sender for row in letter.sums if row[1] == 1]

    def told(self, answers, before=None):
        world = World(self.SETTING, [1, 4])
        losses = Scripted({(1, 4, "slow"): answers})
        told = []
        for at in range(len(answers)):
            if before and at in before:
                before[at](world)
            start = world.letters()
            world.tick(losses, asleep=[4])
            told.append(self.stripe(world, start))
        return told

    def test_each_passed_call_makes_it_the_next_stripe(self):
        rows = [[0, 1, 2], [3, 4, 5], [6, 7]]
        self.assertEqual(rows + rows[:1], self.told([None] * 4))

    def test_failed_calls_do_not(self):
        told = self.told([None, 0, 3, 1, None, 2, None])
        # What fails in the letters 0 or 1 has sent all but one of its sums. The short stripe has no letter 2 to lose.
        self.assertEqual([[0, 1, 2], [3, 4], [3, 4, 5], [3, 4], [3, 4, 5], [6, 7], [0, 1, 2]], told)

    def test_each_pair_counts_for_itself(self):
        world = World(self.SETTING, [1, 4, 6])
        told = {}
        for _ in range(6):
            start = world.letters()
            world.tick(asleep=[4, 6])
            called = [row[2] for row in world.tries(world.clock - 1) if row[3] == "slow"][0]
            told.setdefault(called, []).append(self.stripe(world, start))
        self.assertEqual({4: [[0, 1, 2], [3, 4, 5], [6, 7]], 6: [[0, 1, 2], [3, 4, 5], [6, 7]]}, told)

    def test_a_returned_member_begins_anew(self):
        def crash(world):
            world.crash(1)
            world.revive(1)

        told = self.told([None] * 4, {2: crash})
        self.assertEqual([[0, 1, 2], [3, 4, 5]] * 2, [row[:3] for row in told])


class Newcomers(unittest.TestCase):
    """Seat 0 joins by 2 and knows of 3. With room 1 an Ask picks the saying that was told least."""

    def extras(self, world, answers, further=0):
        """What seat 0 tells in its Asks to 2 behind the greetings, if its slow calls to 2 and to 3 are lost like this."""
        losses = Scripted({(0, 2, "slow"): answers, (0, 3, "slow"): further})
        start = world.letters()
        for _ in range(4):
            world.tick(losses, asleep=[2, 3])
        asks = [letter for letter in letters_of(world, start) if letter.KIND == "ask"]
        self.assertEqual([("ask", 0, 2)] * 4, routes(asks))
        return [[saying[0] for saying in letter.sayings[2:]] for letter in asks]

    def joined(self, answers, further=0):
        world = World(Setting(2, 2, 1, helpers=0), [2, 3])
        world.admit(0, 2)
        world.introduce(0, 3)
        return self.extras(world, answers, further)

    def test_the_own_saying_is_hot_again_behind_the_first_passed_slow_call(self):
        # Ask 0 tells the own saying. If that one counts from 0 again it is told once more, ahead of 2 and 3.
        self.assertEqual([[], [], [], [3]], self.joined([None, 0, 0, 0]))
        self.assertEqual([[], [], [3], []], self.joined([0, 0, 0, 0]))
        self.assertEqual([[], [], [3], []], self.joined([3, 3, 3, 3]))

    def test_a_later_slow_call_that_passes(self):
        self.assertEqual([[], [], [], [3]], self.joined([0, None, 0, 0]))

    def test_further_slow_calls_change_nothing(self):
        self.assertEqual([[], [], [], [3]], self.joined([None] * 4, None))

    def test_a_returned_member(self):
        for lost, told in ((None, [[], [], [3]]), (0, [[], [3], []])):
            world = World(Setting(2, 2, 1, helpers=0), [0, 2, 3])
            world.crash(0)
            world.revive(0)
            world.put(3, "c")
            world.tick(asleep=[0, 2])
            self.assertEqual((3, 2, "alive", "c"), world.book_of(0).of(3))
            self.assertEqual(told, self.extras(world, [lost, 0, 0, 0])[:3])

    def test_a_founder_is_no_newcomer(self):
        for lost in (None, 0):
            world = World(Setting(2, 2, 1, helpers=0), [0, 2, 3])
            world.put(0, "a")
            world.put(3, "c")
            world.tick(asleep=[0, 2])
            self.assertEqual([[], [3], []], self.extras(world, [lost, 0, 0, 0])[:3])


class Helpers(unittest.TestCase):
    """Seat 1 calls 4 slowly, in vain; all are too near for a quick call. The helpers are met from 5 on: 6, 7, 8."""

    SEATS = [1, 4, 6, 7, 8]
    OTHERS = [4, 6, 7, 8]

    def world(self, helpers=3, lost=None, before=(), patience=2):
        world = World(Setting(4, patience, 16, helpers=helpers), self.SEATS)
        for deed in before:
            deed(world)
        self.losses = Scripted({(1, 4, "slow"): 0, **(lost or {})})
        world.tick(self.losses, asleep=self.OTHERS)
        self.assertEqual([(0, 1, 4, "slow", False)], world.tries())
        return world

    def probing(self, world):
        """The letters of the probing, each told by its kind, its two seats, and what a Probed tells."""
        told = [letter for letter in letters_of(world) if letter.KIND in ("probe", "probed")]
        return [(letter.KIND, letter.sender, letter.receiver, *letter.parts()[7:]) for letter in told]

    def missed(self, world):
        """Tell whether the call counted as a miss: with one more the seat is suspect."""
        self.assertEqual("alive", world.book_of(1).of(4)[2])
        world.tick(Scripted({(1, 4, "slow"): 0, **{(1, seat, "probe"): 0 for seat in self.SEATS}}), asleep=self.OTHERS)
        return world.book_of(1).of(4)[2] == "suspect"

    def test_the_number_of_helpers(self):
        for helpers in range(4):
            world = self.world(helpers, before=[lambda world: world.crash(4)])
            asked = [6, 7, 8][:helpers]
            told = [row for seat in asked for row in (("probe", 1, seat), ("probed", seat, 1, False))]
            self.assertEqual(told, self.probing(world))
            self.assertEqual([(1, seat, "probe") for seat in asked], [call for call in self.losses.calls if call[2] == "probe"])
            self.assertTrue(self.missed(world))

    def test_the_first_one_that_reaches_it_ends_the_asking(self):
        world = self.world()
        self.assertEqual([("probe", 1, 6), ("probed", 6, 1, True)], self.probing(world))
        self.assertFalse(self.missed(world))

    def test_no_helper_is_asked_if_the_call_was_answered(self):
        for lost in (None, 2, 3):
            world = World(Setting(4, 2, 2), self.SEATS)
            world.tick(Scripted({(1, 4, "slow"): lost}), asleep=self.OTHERS)
            self.assertEqual([lost is None, []], [world.tries()[0][4], self.probing(world)])

    def test_lost_probes(self):
        for index in (0, 1, 5):
            world = self.world(lost={(1, 6, "probe"): index})
            self.assertEqual([("probe", 1, 6), ("probe", 1, 7), ("probed", 7, 1, True)], self.probing(world))
            self.assertFalse(self.missed(world))
        world = self.world(lost={(1, seat, "probe"): 0 for seat in (6, 7, 8)})
        self.assertEqual([("probe", 1, 6), ("probe", 1, 7), ("probe", 1, 8)], self.probing(world))
        self.assertTrue(self.missed(world))

    def test_helpers_that_are_down(self):
        world = self.world(before=[lambda world: world.crash(6), lambda world: world.crash(7)])
        self.assertEqual([("probe", 1, 6), ("probe", 1, 7), ("probe", 1, 8), ("probed", 8, 1, True)], self.probing(world))

    def test_helpers_that_are_not_held_to_be_alive(self):
        world = World(Setting(4, 1, 16, helpers=2), self.SEATS)
        losses = Scripted({(1, 4, "slow"): 0, (1, 7, "probe"): 0, (1, 8, "probe"): 0, (1, 6, "probe"): 0})
        world.tick(losses, asleep=self.OTHERS)
        self.assertEqual([("probe", 1, 6), ("probe", 1, 7)], self.probing(world))
        self.assertEqual("suspect", world.book_of(1).of(4)[2])
        world.put(8, "x")
        world.tick(Scripted({(1, 6, "slow"): 0}), asleep=self.OTHERS)
        # Seat 4 is suspect, so it is not asked about 6.
        told = [row for row in self.probing(world)[2:] if row[0] == "probe"]
        self.assertEqual([("probe", 1, 7)], told)

    def test_links_between_helper_and_target(self):
        for link in ((6, 4), (4, 6)):
            world = self.world(before=[lambda world: world.sever(*link)])
            told = [("probe", 1, 6), ("probed", 6, 1, False), ("probe", 1, 7), ("probed", 7, 1, True)]
            self.assertEqual(told, self.probing(world))

    def test_links_between_caller_and_helper(self):
        world = self.world(before=[lambda world: world.sever(1, 6), lambda world: world.sever(7, 1)])
        told = [("probe", 1, 6), ("probe", 1, 7), ("probed", 7, 1, True), ("probe", 1, 8), ("probed", 8, 1, True)]
        self.assertEqual(told, self.probing(world))

    def test_none_reaches_it(self):
        cuts = [lambda world, seat=seat: world.sever(seat, 4) for seat in (6, 7, 8)]
        world = self.world(before=cuts)
        self.assertEqual([False] * 3, [row[3] for row in self.probing(world) if row[0] == "probed"])
        self.assertTrue(self.missed(world))

    def test_a_suspicion_at_once_with_patience_one(self):
        for lost, mark in (({}, "alive"), ({(1, seat, "probe"): 0 for seat in (6, 7, 8)}, "suspect")):
            self.assertEqual(mark, self.world(lost=lost, patience=1).book_of(1).of(4)[2])

    def test_the_letters(self):
        world = World(Setting(4, 2, 16, helpers=2), self.SEATS)
        world.divide([6], [1, 4, 7, 8])
        for _ in range(3):
            world.tick(asleep=[1, 4, 7, 8])
        world.heal()
        world.sever(6, 4)
        self.assertEqual([0, 3, 0], [world.beat_of(seat) for seat in (1, 6, 7)])
        start = world.letters()
        world.tick(Scripted({(1, 4, "slow"): 0}), asleep=self.OTHERS)
        told = [letter.parts() for letter in letters_of(world, start)]
        self.assertEqual([
            ("sums", 1, 4, 0, 1), ("probe", 1, 6, 0, 2), ("probed", 6, 1, 3, 2), ("probe", 1, 7, 3, 3), ("probed", 7, 1, 3, 3),
        ], [row[:5] for row in told])
        self.assertEqual([((), 4), ((), 4, False), ((), 4), ((), 4, True)], [row[5:] for row in told[1:]])
        # The helper 7 heard beat 3 of the Probe, and 1 that of the Probed.
        self.assertEqual([4, 3, 3], [world.beat_of(seat) for seat in (1, 6, 7)])

    def test_probes_count_as_calls(self):
        world = self.world(before=[lambda world: world.crash(4)])
        world.tick(Scripted({(1, 4, "slow"): 0}), asleep=self.OTHERS)
        numbers = [letter.number for letter in letters_of(world) if letter.sender == 1]
        self.assertEqual([1, 2, 3, 4, 5, 6, 7, 8], numbers)

    def test_the_target_is_no_helper_and_neither_is_the_caller(self):
        world = self.world(helpers=3, before=[lambda world: world.crash(4)])
        self.assertEqual({6, 7, 8}, {row[2] for row in self.probing(world) if row[0] == "probe"})

    def test_a_quick_call_in_vain(self):
        world = World(Setting(3, 2, 16, helpers=1), [1, 4, 6, 7])
        world.tick(Scripted({(1, 6, "quick"): 1}), asleep=[4, 6, 7])
        told = routes(letters_of(world))
        self.assertEqual([("ask", 1, 6), ("answer", 6, 1), ("probe", 1, 7), ("probed", 7, 1)], told[:4])
        self.assertEqual("sums", told[4][0])
