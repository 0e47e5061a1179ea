"""Points 24 and 25: plans without losses, and what explains what was seen."""

import itertools
import random

from livingroll.errors import InvalidPlan
from livingroll.papers import explain_paper, judge_plan, least_letters, least_rounds, tree_plan
from livingroll.plan import target
from livingroll.setting import Setting
from livingroll.spread import Spread
from tests.helpers import Case

MANY = 10 ** 60


class Least(Case):
    def test_by_hand(self):
        self.assertEqual([0, 1, 2, 2, 3, 3, 3, 3, 4], [least_rounds(count) for count in range(1, 10)])
        self.assertEqual(list(range(9)), [least_letters(count) for count in range(1, 10)])

    def test_beside_powers_of_two(self):
        for power in range(2, 200):
            counts = (2 ** power - 1, 2 ** power, 2 ** power + 1)
            self.assertEqual([power, power, power + 1], [least_rounds(count) for count in counts])
            self.assertEqual([count - 1 for count in counts], [least_letters(count) for count in counts])


class Trees(Case):
    def test_one_seat_and_two(self):
        self.assertEqual([], tree_plan([7]))
        self.assertEqual([[(7, 2)]], tree_plan([7, 2]))

    def test_both_least_numbers(self):
        draw = random.Random(24)
        for count in [*range(1, 40), 255, 256, 257, 1000]:
            seats = draw.sample(range(MANY, MANY + 2 * count), count)
            before = list(seats)
            plan = tree_plan(seats)
            self.assertEqual((least_rounds(count), least_letters(count)), judge_plan(seats, seats[0], plan))
            self.assertEqual(before, seats)
            self.assertEqual({tuple}, {pair.__class__ for pairs in plan for pair in pairs} or {tuple})

    def test_plans_are_new(self):
        seats = [4, 1, 7, 0]
        plan = tree_plan(seats)
        for pairs in plan:
            pairs.clear()
        self.assertEqual((2, 3), judge_plan(seats, 4, tree_plan(seats)))


class Judging(Case):
    SEATS = [4, 1, 7, 9]

    def refused(self, index, plan, seats=SEATS, origin=4):
        with self.subTest(plan=plan):
            self.assert_refused(InvalidPlan, index, judge_plan, seats, origin, plan)

    def test_good_plans(self):
        self.assertEqual((2, 2), judge_plan([4, 1, 7], 4, [[(4, 1)], [(4, 7)]]))
        self.assertEqual((2, 3), judge_plan(self.SEATS, 4, [[(4, 1)], [(4, 7), (1, 9)]]))
        self.assertEqual((3, 3), judge_plan(self.SEATS, 4, [[(4, 9)], [(9, 7)], [(7, 1)]]))
        self.assertEqual((0, 0), judge_plan([4], 4, []))

    def test_pairs_that_tell_a_seat_that_knows_already(self):
        self.assertEqual((3, 6), judge_plan([4, 1, 7], 4, [[(4, 1)], [(4, 7), (1, 7)], [(1, 4), (4, 1), (7, 1)]]))
        self.assertEqual((2, 1), judge_plan([4, 1], 4, [[], [(4, 1)]]))
        self.assertEqual((2, 2), judge_plan([4, 1], 1, [[(1, 4)], [(4, 1)]]))
        self.assertEqual((1, 0), judge_plan([4], 4, [[]]))

    def test_seats_in_any_order(self):
        for seats in itertools.permutations(self.SEATS):
            self.assertEqual((2, 3), judge_plan(list(seats), 4, [[(4, 1)], [(4, 7), (1, 9)]]))

    def test_callers_that_do_not_know_the_news(self):
        self.refused(0, [[(1, 4)], [(4, 7)]])
        self.refused(1, [[(4, 1)], [(7, 9)], [(4, 7)]])
        self.refused(0, [[(4, 1), (1, 7)], [(4, 9)]])
        self.refused(0, [[(1, 7), (4, 1)], [(4, 9)]])

    def test_equal_seats(self):
        self.refused(0, [[(4, 4)]])
        self.refused(1, [[(4, 1)], [(4, 7), (1, 1)], [(4, 9)]])

    def test_seats_of_others(self):
        self.refused(0, [[(4, 2)]])
        self.refused(2, [[(4, 1)], [(4, 7), (1, 9)], [(4, 1), (7, 5)]])
        self.refused(0, [[(2, 4)]])
        self.refused(1, [[(4, 1)], [(5, 1)]])
        self.refused(1, [[(4, 1)], [(5, 6)]])

    def test_callers_that_call_twice(self):
        self.refused(0, [[(4, 1), (4, 7)], [(4, 9)]])
        self.refused(1, [[(4, 1)], [(4, 7), (1, 9), (4, 9)]])
        self.refused(1, [[(4, 1)], [(4, 7), (4, 7)], [(4, 9)]])

    def test_the_first_bad_round_is_told(self):
        self.refused(1, [[(4, 1)], [(4, 4)], [(9, 9)], [(7, 2)]])
        self.refused(2, [[(4, 1)], [(4, 7)], [(9, 1)], [(1, 9)], [(0, 1)]])
        self.refused(0, [[(4, 1), (7, 7)], [(4, 4)]])

    def test_plans_that_do_not_tell_all(self):
        self.refused(0, [])
        self.refused(1, [[(4, 1)]])
        self.refused(2, [[(4, 1)], [(4, 7)]])
        self.refused(2, [[(4, 1)], [(1, 4)]])
        self.refused(3, [[], [], []])
        self.refused(0, [], [4, 1])

    def test_what_is_passed_stays(self):
        seats, plan = [4, 1, 7], [[(4, 1)], [(4, 7), (1, 7)]]
        judge_plan(seats, 4, plan)
        self.refused(2, plan[:1] + [[]], seats)
        self.assertEqual([[4, 1, 7], [[(4, 1)], [(4, 7), (1, 7)]]], [seats, plan])

    def test_no_good_plan_has_fewer_rounds_or_pairs(self):
        draw = random.Random(25)
        good = 0
        for _ in range(4000):
            seats = list(range(draw.randrange(1, 5)))
            plan = [[(draw.choice(seats), draw.choice(seats)) for _ in range(draw.randrange(3))]
                    for _ in range(draw.randrange(5))]
            try:
                rounds, pairs = judge_plan(seats, 0, plan)
            except InvalidPlan:
                continue
            good += 1
            self.assertGreaterEqual(rounds, least_rounds(len(seats)))
            self.assertGreaterEqual(pairs, least_letters(len(seats)))
            self.assertEqual((len(plan), sum(map(len, plan))), (rounds, pairs))
        self.assertGreater(good, 300)


def spread_of(setting, held, origin, start, lost, count):
    """What is seen of a spread in the first rounds: for each seat but the origin when it came to know the news."""
    spread = Spread(setting, held, [origin], start)
    for index in range(count):
        spread.step(lost[index] if index < len(lost) else ())
    return {seat: spread.since(seat) for seat in spread.known() if seat != origin}


def told_papers(setting, held, origin, start, seen, count):
    """The rows and the outside help by the words of point 25."""
    since = {**seen, origin: 0}
    rows, outside = [], []
    for index in range(count):
        knew = [seat for seat in held if since.get(seat, count + 1) <= index]
        calls = {seat: target(setting, seat, start + index, held) for seat in knew}
        knows = [seat for seat in held if since.get(seat, count + 1) <= index + 1]
        rows.append(sorted(seat for seat in knew if calls[seat] is not None and calls[seat] not in knows))
        outside += [(index + 1, seat) for seat in seen if seen[seat] == index + 1 and seat not in calls.values()]
    return rows, sorted(outside)


class Papers(Case):
    SETTING = Setting(3, 1, 4)
    HELD = [0, 3, 5, 7]

    def explained(self, seen, count, start=0):
        return explain_paper(self.SETTING, self.HELD, 3, start, seen, count)

    def test_no_rounds(self):
        self.assertEqual(([], []), self.explained({}, 0))

    def test_nothing_was_seen(self):
        self.assertEqual(([[0]], []), explain_paper(Setting(2, 1, 4), [0, 1, 2], 0, 0, {}, 1))
        self.assertEqual(([[3], [3], [3]], []), self.explained({}, 3))
        # Seat 0 has seat 1 as target in the last phase alone.
        self.assertEqual(([[], [], [0], []], []), explain_paper(self.SETTING, [0, 1], 0, 0, {}, 4))
        self.assertEqual(([[], []], []), explain_paper(self.SETTING, [6], 6, 0, {}, 2))

    def test_without_losses(self):
        self.assertEqual(([[], [], []], []), self.explained({7: 1, 5: 2, 0: 3}, 3))
        self.assertEqual(([[], [], [], []], []), self.explained({7: 1, 5: 2, 0: 3}, 4))

    def test_losses(self):
        self.assertEqual(([[3], [], [5]], []), self.explained({5: 2}, 3))
        self.assertEqual(([[], [3], [3]], []), self.explained({7: 1, 0: 3}, 3))
        self.assertEqual(([[3], [], [5], []], []), self.explained({5: 2, 7: 4}, 4))
        self.assertEqual(([[3], [3]], []), self.explained({}, 2))

    def test_outside_help(self):
        self.assertEqual(([[3]], [(1, 0)]), self.explained({0: 1}, 1))
        self.assertEqual(([[3]], [(1, 0), (1, 5)]), self.explained({5: 1, 0: 1}, 1))
        self.assertEqual(([[3], [3]], [(2, 0)]), self.explained({0: 2}, 2))

    def test_rounds_come_ahead_of_seats(self):
        self.assertEqual([(1, 5), (2, 0)], self.explained({0: 2, 5: 1}, 2)[1])

    def test_help_in_the_round_in_which_the_try_to_the_seat_is_lost(self):
        # 7 comes to know it in round 0, in which 3 called it: nobody can tell that the try was lost and another one helped.
        self.assertEqual(([[]], []), self.explained({7: 1}, 1))
        # 0 is told from outside in round 0; in round 1 it calls 3. 5 is told in round 1 by 3, or from outside.
        self.assertEqual(([[3], []], [(1, 0)]), self.explained({0: 1, 5: 2}, 2))

    def test_a_telling_of_a_seat_that_comes_to_know_it_in_the_same_round_does_not_count(self):
        # 5 and 7 come to know it in round 1, in which 5 would call 7, but did not know it when the round began.
        self.assertEqual(([[3], []], [(2, 7)]), self.explained({5: 2, 7: 2}, 2))

    def test_what_is_passed_stays_and_what_is_returned_is_new(self):
        held, seen = [7, 0, 5, 3], {0: 1, 5: 2}
        rows, outside = explain_paper(self.SETTING, held, 3, 0, seen, 3)
        rows[0].clear()
        outside.clear()
        self.assertEqual([[7, 0, 5, 3], {0: 1, 5: 2}], [held, seen])
        self.assertEqual(([[3], [], [5]], [(1, 0)]), explain_paper(self.SETTING, held, 3, 0, seen, 3))

    def drawn(self, draw):
        setting = Setting(draw.randrange(1, 5), draw.randrange(1, 4), 4)
        held = draw.sample(range(setting.seats), draw.randrange(1, min(setting.seats, 9) + 1))
        return setting, held, draw.choice(held), draw.choice((0, 1, 4, MANY)), draw.randrange(8)

    def test_against_the_words(self):
        draw = random.Random(26)
        for _ in range(400):
            setting, held, origin, start, count = self.drawn(draw)
            seen = {seat: draw.randrange(1, count + 1) for seat in held if count and seat != origin and draw.random() < 0.6}
            told = told_papers(setting, held, origin, start, seen, count)
            self.assertEqual(told, explain_paper(setting, held, origin, start, seen, count))

    def test_papers_of_spreads_have_no_help_and_only_losses_of_the_schedule(self):
        draw = random.Random(27)
        for _ in range(400):
            setting, held, origin, start, count = self.drawn(draw)
            lost = [[seat for seat in held if draw.random() < 0.4] for _ in range(draw.randrange(count + 1))]
            seen = spread_of(setting, held, origin, start, lost, count)
            rows, outside = explain_paper(setting, held, origin, start, seen, count)
            self.assertEqual([], outside)
            self.assertEqual(count, len(rows))
            for index, row in enumerate(rows):
                self.assertEqual(sorted(row), row)
                self.assertLessEqual(set(row), set(lost[index] if index < len(lost) else ()))
            self.assertEqual(seen, spread_of(setting, held, origin, start, rows, count))

    def test_a_spread_with_the_rows_gives_what_was_seen_if_nobody_helped(self):
        draw = random.Random(28)
        found = 0
        for _ in range(2000):
            setting, held, origin, start, count = self.drawn(draw)
            seen = {seat: draw.randrange(1, count + 1) for seat in held if count and seat != origin and draw.random() < 0.4}
            rows, outside = explain_paper(setting, held, origin, start, seen, count)
            if not outside:
                found += bool(seen)
                self.assertEqual(seen, spread_of(setting, held, origin, start, rows, count))
        self.assertGreater(found, 50)
