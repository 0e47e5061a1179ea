"""Points 26 to 28: tours, misses, doubts and helpers."""

import random

from livingroll.book import Book
from livingroll.probing import Doubts, Misses, Tour, helpers_for
from livingroll.setting import Setting
from tests.helpers import Case

SETTING = Setting(3, 2, 4, grace=3)
MANY = 10 ** 60


def patient(patience):
    return Setting(3, patience, 4)


class TourCase(Case):
    def assert_tour(self, tour, current, failed):
        self.assertEqual([current, failed], [tour.current, tour.failed])


class Visits(TourCase):
    def test_at_first(self):
        self.assert_tour(Tour(SETTING, 4), None, 0)

    def test_the_first_aim_is_met_first_behind_the_own_seat(self):
        for seat, names, aim in ((4, [0, 5, 7], 5), (4, [0, 3], 0), (7, [2, 6], 2), (0, [6], 6), (5, [4], 4)):
            tour = Tour(SETTING, seat)
            self.assertEqual(aim, tour.aim(names))
            self.assert_tour(tour, aim, 0)

    def test_the_first_aim_behind_another_place(self):
        names = [0, 2, 5]
        for behind, aim in ((1, 2), (2, 5), (4, 5), (5, 0), (-1, 0), (0, 2), (7, 0), (-4, 5), (8 * MANY + 1, 2), (-8 * MANY, 2)):
            self.assertEqual(aim, Tour(SETTING, 4, behind=behind).aim(names))
        self.assertEqual(0, Tour(SETTING, 3, behind=7).aim(names))
        self.assertEqual(5, Tour(SETTING, 3, behind=None).aim(names))

    def test_a_visit_that_ends_by_a_passed_try(self):
        tour = Tour(SETTING, 4)
        self.assertEqual(6, tour.aim([1, 6]))
        self.assertIsNone(tour.report(True))
        self.assert_tour(tour, 6, 0)
        self.assertEqual(1, tour.aim([1, 6]))
        self.assert_tour(tour, 1, 0)

    def test_a_visit_that_ends_after_patience_failed_tries(self):
        for patience in range(1, 7):
            tour = Tour(patient(patience), 4)
            for failed in range(patience):
                self.assertEqual(6, tour.aim([1, 6]))
                self.assert_tour(tour, 6, failed)
                self.assertIsNone(tour.report(False))
                self.assert_tour(tour, 6, failed + 1)
            self.assertEqual(1, tour.aim([1, 6]))
            self.assert_tour(tour, 1, 0)

    def test_a_passed_try_behind_failed_ones(self):
        tour = Tour(patient(3), 4)
        tour.aim([1, 6])
        tour.report(False)
        tour.aim([1, 6])
        tour.report(False)
        self.assertEqual(6, tour.aim([1, 6]))
        tour.report(True)
        self.assert_tour(tour, 6, 2)
        self.assertEqual(1, tour.aim([1, 6]))
        self.assert_tour(tour, 1, 0)

    def test_patience_one(self):
        tour = Tour(patient(1), 4)
        told = []
        for passed in (True, False, False, True, False):
            told.append(tour.aim([1, 5, 6]))
            tour.report(passed)
            self.assert_tour(tour, told[-1], 0 if passed else 1)
        self.assertEqual([5, 6, 1, 5, 6], told)

    def test_one_name_alone_is_visited_again(self):
        tour = Tour(SETTING, 4)
        for passed in (True, False, False, True):
            self.assertEqual(2, tour.aim([2]))
            tour.report(passed)
        self.assert_tour(tour, 2, 0)

    def test_the_way_around(self):
        tour = Tour(SETTING, 4)
        told = []
        for _ in range(7):
            told.append(tour.aim([0, 1, 6]))
            tour.report(True)
        self.assertEqual([6, 0, 1, 6, 0, 1, 6], told)


class Interrupted(TourCase):
    def test_aim_without_a_report_counts_no_try(self):
        tour = Tour(SETTING, 4)
        for _ in range(5):
            self.assertEqual(6, tour.aim([1, 6]))
            self.assert_tour(tour, 6, 0)
        tour.report(False)
        for _ in range(5):
            self.assertEqual(6, tour.aim([1, 6]))
            self.assert_tour(tour, 6, 1)
        tour.report(False)
        self.assertEqual([1, 1], [tour.aim([1, 6]), tour.aim([1, 6])])

    def test_names_that_lose_the_current_seat(self):
        tour = Tour(SETTING, 4)
        tour.aim([1, 6])
        tour.report(False)
        self.assertEqual(1, tour.aim([1, 5]))
        self.assert_tour(tour, 1, 0)

    def test_names_that_lose_and_find_the_current_seat(self):
        tour = Tour(SETTING, 4)
        tour.aim([1, 6])
        tour.report(False)
        self.assertEqual(1, tour.aim([1]))
        tour.report(True)
        self.assertEqual(6, tour.aim([1, 6]))
        self.assert_tour(tour, 6, 0)

    def test_names_that_come_and_go_beside(self):
        tour = Tour(SETTING, 4)
        self.assertEqual(6, tour.aim([1, 6]))
        tour.report(False)
        self.assertEqual(6, tour.aim([5, 6, 7]))
        self.assert_tour(tour, 6, 1)
        tour.report(True)
        self.assertEqual(7, tour.aim([5, 7]))

    def test_no_names(self):
        tour = Tour(SETTING, 4)
        self.assertIsNone(tour.aim([]))
        self.assert_tour(tour, None, 0)
        tour.report(False)
        self.assert_tour(tour, None, 0)
        self.assertEqual(6, tour.aim([1, 6]))
        self.assertIsNone(Tour(SETTING, 4, behind=0).aim([]))

    def test_no_names_leave_the_place_given_at_first(self):
        tour = Tour(SETTING, 4, behind=0)
        tour.aim([])
        self.assertEqual(1, tour.aim([1, 6]))

    def test_behind_no_names_the_tour_goes_on_behind_the_last_visit(self):
        for passed, failed in ((True, 0), (False, 1), (None, 0)):
            tour = Tour(SETTING, 4)
            tour.aim([1, 6])
            if passed is not None:
                tour.report(passed)
            self.assert_tour(tour, 6, failed)
            self.assertIsNone(tour.aim([]))
            self.assert_tour(tour, None, 0)
            self.assertIsNone(tour.aim([]))
            self.assertEqual(1, tour.aim([1, 6]))
            self.assert_tour(tour, 1, 0)

    def test_a_report_without_a_visit_that_goes_on(self):
        tour = Tour(SETTING, 4)
        for passed in (False, True, False):
            tour.report(passed)
            self.assert_tour(tour, None, 0)
        self.assertEqual(6, tour.aim([1, 6]))
        tour.report(True)
        for passed in (False, True, False, False):
            tour.report(passed)
            self.assert_tour(tour, 6, 0)
        self.assertEqual(1, tour.aim([1, 6]))
        tour.report(False)
        tour.aim([1, 6])
        tour.report(False)
        for passed in (False, True, False, False):
            tour.report(passed)
            self.assert_tour(tour, 1, 2)
        self.assertEqual(6, tour.aim([1, 6]))
        self.assert_tour(tour, 6, 0)

    def test_the_names_stay(self):
        names = [1, 6]
        tour = Tour(SETTING, 4)
        tour.aim(names)
        tour.report(True)
        tour.aim(names)
        self.assertEqual([1, 6], names)


class TourFacts(Case):
    def tries_of(self, draw, tour, lists, chance):
        rows = []
        for names in lists:
            aim, failed = tour.aim(names), tour.failed
            passed = draw.random() < chance
            tour.report(passed)
            rows.append((aim, failed, passed))
        return rows

    def assert_window(self, rows, seat, patience):
        """A whole visit: it begins in the window and ends in it."""
        begun = False
        for aim, failed, passed in rows:
            begun = begun and aim == seat or (aim == seat and failed == 0)
            if begun and (passed or failed + 1 == patience):
                return
        self.fail(f"no whole visit to {seat} in {rows}")

    def assert_tried(self, rows, seat, patience):
        tries = [passed for aim, _, passed in rows if aim == seat]
        self.assertTrue(any(tries) or len(tries) >= patience, (rows, seat))

    def test_a_fixed_list(self):
        draw = random.Random(26)
        for _ in range(150):
            patience, names = draw.randrange(1, 4), sorted(draw.sample([0, 1, 2, 3, 5, 6, 7], draw.randrange(1, 6)))
            tour = Tour(patient(patience), 4, behind=draw.choice((None, 0, 6)))
            rows = self.tries_of(draw, tour, [names] * 60, draw.choice((0, 0.3, 0.7, 1)))
            long, short = (len(names) + 1) * patience - 1, len(names) * patience
            for at in range(60 - long):
                for seat in names:
                    self.assert_window(rows[at:at + long], seat, patience)
                    self.assert_tried(rows[at:at + short], seat, patience)

    def test_names_that_come_and_go(self):
        draw = random.Random(27)
        for _ in range(150):
            patience, pool = draw.randrange(1, 4), draw.sample([0, 1, 2, 3, 5, 6, 7], draw.randrange(2, 6))
            stays = pool[0]
            lists = [sorted({stays, *[seat for seat in pool if draw.random() < 0.6]}) for _ in range(60)]
            tour = Tour(patient(patience), 4)
            rows = self.tries_of(draw, tour, lists, draw.choice((0, 0.3, 0.7)))
            long, short = (len(pool) + 1) * patience - 1, len(pool) * patience
            for at in range(60 - long):
                self.assert_window(rows[at:at + long], stays, patience)
                self.assert_tried(rows[at:at + short], stays, patience)


class Counting(Case):
    def test_at_first(self):
        misses = Misses(SETTING)
        self.assertEqual([0, 0], [misses.count(5, kind) for kind in ("quick", "slow")])

    def test_up_to_patience_and_beyond(self):
        for patience in range(1, 7):
            misses = Misses(patient(patience))
            for _ in range(3):
                for many in range(1, patience):
                    self.assertIs(False, misses.miss(5, "slow"))
                    self.assertEqual(many, misses.count(5, "slow"))
                self.assertIs(True, misses.miss(5, "slow"))
                self.assertEqual(0, misses.count(5, "slow"))

    def test_kinds_and_seats_apart(self):
        misses = Misses(patient(3))
        for seat, kind in ((5, "quick"), (5, "slow"), (6, "quick"), (5, "quick")):
            self.assertIs(False, misses.miss(seat, kind))
        self.assertEqual([2, 1, 1, 0], [misses.count(seat, kind) for seat in (5, 6) for kind in ("quick", "slow")])
        self.assertIs(True, misses.miss(5, "quick"))
        self.assertEqual([0, 1, 1, 0], [misses.count(seat, kind) for seat in (5, 6) for kind in ("quick", "slow")])

    def test_heard_between(self):
        misses = Misses(SETTING)
        for seat, kind in ((5, "quick"), (5, "slow"), (6, "quick"), (6, "slow")):
            misses.miss(seat, kind)
        self.assertIsNone(misses.heard(5))
        self.assertEqual([0, 0, 1, 1], [misses.count(seat, kind) for seat in (5, 6) for kind in ("quick", "slow")])
        self.assertEqual([False, True], [misses.miss(5, "quick"), misses.miss(5, "quick")])
        self.assertIs(True, misses.miss(6, "slow"))

    def test_heard_of_a_seat_without_misses(self):
        misses = Misses(SETTING)
        misses.heard(3)
        self.assertEqual(0, misses.count(3, "quick"))
        self.assertIs(False, misses.miss(3, "quick"))


class Clocks(Case):
    def test_start_and_since(self):
        doubts = Doubts(SETTING)
        self.assertIsNone(doubts.since(5))
        self.assertIsNone(doubts.doubt(5, 2, 7))
        self.assertEqual([7, None], [doubts.since(5), doubts.since(6)])
        doubts.doubt(6, 2, 0)
        self.assertEqual([7, 0], [doubts.since(5), doubts.since(6)])

    def test_a_clock_that_runs_for_the_same_life_goes_on(self):
        doubts = Doubts(SETTING)
        doubts.doubt(5, 2, 7)
        doubts.doubt(5, 2, 9)
        self.assertEqual(7, doubts.since(5))

    def test_a_clock_of_another_life_starts_anew(self):
        for life in (1, 3, MANY):
            doubts = Doubts(SETTING)
            doubts.doubt(5, 2, 7)
            doubts.doubt(5, life, 9)
            self.assertEqual(9, doubts.since(5))
            doubts.doubt(5, life, 11)
            self.assertEqual(9, doubts.since(5))
            doubts.doubt(5, 2, 12)
            self.assertEqual(12, doubts.since(5))

    def test_lift(self):
        doubts = Doubts(SETTING)
        self.assertIsNone(doubts.lift(5))
        doubts.doubt(5, 2, 7)
        doubts.doubt(6, 2, 7)
        self.assertIsNone(doubts.lift(5))
        self.assertEqual([None, 7], [doubts.since(5), doubts.since(6)])
        doubts.doubt(5, 2, 8)
        self.assertEqual(8, doubts.since(5))


class Due(Case):
    def due(self, book_rows, now, clocks, setting=SETTING):
        doubts = Doubts(setting)
        for clock in clocks:
            doubts.doubt(*clock)
        return doubts.due(Book(setting, book_rows), now)

    def test_grace(self):
        for grace in (1, 3, 200):
            setting = Setting(3, 2, 4, grace=grace)
            for start in (0, 4):
                told = [self.due([(5, 2, "suspect", "ab")], start + age, [(5, 2, start)], setting)
                        for age in (grace - 1, grace, grace + 1, grace + 50)]
                self.assertEqual([[]] + [[(5, 2, "dead", "ab")]] * 3, told)

    def test_another_life(self):
        for life in (1, 3):
            self.assertEqual([], self.due([(5, life, "suspect", "")], 9, [(5, 2, 0)]))

    def test_another_mark(self):
        for mark in ("alive", "dead", "left"):
            self.assertEqual([], self.due([(5, 2, mark, "")], 9, [(5, 2, 0)]))

    def test_without_a_row_or_a_clock(self):
        self.assertEqual([], self.due([], 9, [(5, 2, 0)]))
        self.assertEqual([], self.due([(4, 2, "suspect", "")], 9, [(5, 2, 0)]))
        self.assertEqual([], self.due([(5, 2, "suspect", "")], 9, []))

    def test_several_seats_in_any_order_of_doubts(self):
        rows = [(seat, 2, "suspect", str(seat)) for seat in (0, 2, 5, 7)] + [(3, 1, "alive", ""), (6, 8, "suspect", "")]
        draw = random.Random(28)
        for _ in range(20):
            clocks = [(seat, 2, 0) for seat in (7, 3, 0, 6, 5)] + [(2, 2, 2)]
            draw.shuffle(clocks)
            told = [(0, 2, "dead", "0"), (5, 2, "dead", "5"), (7, 2, "dead", "7")]
            self.assertEqual(told, self.due(rows, 4, clocks))
            self.assertEqual(sorted(told + [(2, 2, "dead", "2")]), self.due(rows, 5, clocks))

    def test_looking_changes_nothing(self):
        doubts, book = Doubts(SETTING), Book(SETTING, [(5, 2, "suspect", "")])
        doubts.doubt(5, 2, 0)
        for _ in range(2):
            told = doubts.due(book, 3)
            self.assertEqual([(5, 2, "dead", "")], told)
            told.clear()
        self.assertEqual([0, (5, 2, "suspect", "")], [doubts.since(5), book.of(5)])

    def test_a_lifted_clock_is_not_due(self):
        doubts, book = Doubts(SETTING), Book(SETTING, [(5, 2, "suspect", "")])
        doubts.doubt(5, 2, 0)
        doubts.lift(5)
        self.assertEqual([], doubts.due(book, 9))


class Helpers(Case):
    def test_each_number_of_helpers(self):
        for helpers in range(4):
            setting = Setting(3, 1, 4, helpers=helpers)
            self.assertEqual([6, 1, 2][:helpers], helpers_for(setting, 7, 4, [1, 2, 3, 4, 6, 7]))
            self.assertEqual([7, 0, 1][:helpers], helpers_for(setting, 3, 6, list(range(8))))

    def test_alive_in_any_order(self):
        setting = Setting(3, 1, 4, helpers=3)
        draw = random.Random(29)
        for _ in range(20):
            alive = [0, 2, 3, 5, 6]
            draw.shuffle(alive)
            before = list(alive)
            self.assertEqual([5, 6, 2], helpers_for(setting, 0, 3, alive))
            self.assertEqual(before, alive)

    def test_with_and_without_seat_and_about(self):
        setting = Setting(3, 1, 4, helpers=3)
        for more in ([], [0], [3], [0, 3]):
            self.assertEqual([5, 1], helpers_for(setting, 0, 3, [1, 5] + more))
            self.assertEqual([], helpers_for(setting, 0, 3, more))

    def test_fewer_seats_than_helpers(self):
        setting = Setting(3, 1, 4, helpers=3)
        self.assertEqual([2], helpers_for(setting, 0, 3, [2]))
        self.assertEqual([4, 2], helpers_for(setting, 0, 3, [2, 4]))
        self.assertEqual([], helpers_for(Setting(1, 1, 4, helpers=3), 0, 1, [0, 1]))

    def test_one_helper_is_what_a_setting_has_at_first(self):
        self.assertEqual([4], helpers_for(Setting(3, 1, 4), 0, 3, [2, 4]))
