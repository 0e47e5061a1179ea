"""Points 35 to 38: what a member holds, learns, does and says."""

from livingroll.book import Book
from livingroll.errors import DeedRefused, NoBook
from livingroll.letters import Answer, Ask, Probe, Probed, Sums
from livingroll.member import Member
from livingroll.mending import restore
from livingroll.setting import Setting
from tests.helpers import Case
from tests.test_mending import area

SETTING = Setting(3, 2, 4, grace=3)
FOUNDERS = [1, 4, 6]
ROWS = [(seat, 1, "alive", "") for seat in FOUNDERS]
LIFE = 10 ** 59 - 1


def founder(seat=4, setting=SETTING, founders=FOUNDERS):
    return Member.founder(setting, seat, founders)


def returned(*rows, seat=4, setting=SETTING):
    return Member.returned(setting, seat, (area(0, list(rows)), ""))


def state(member):
    """All that can be seen of a member."""
    return (
        member.seat, member.worth, member.beat, member.rounds, member.calls, member.leaving, member.newcomer,
        member.life, member.gone, member.book.rows(), member.news.rows(), member.tour.current, member.tour.failed,
        [member.misses.count(seat, kind) for seat in range(8) for kind in ("quick", "slow")],
        [member.doubts.since(seat) for seat in range(8)],
        member.disk.areas(), member.disk.pending, member.disk.log_lines, [list(run) for run in member.journal],
    )


def durable(member):
    """The rows that would be restored if the member crashed now and nothing pending was kept."""
    return restore(SETTING, member.disk.areas())[0].rows()


class Founding(Case):
    def test_all_attributes(self):
        member = founder()
        self.assertEqual([4, "", 0, 0, 0], [member.seat, member.worth, member.beat, member.rounds, member.calls])
        self.assertEqual([False, False, False], [member.leaving, member.newcomer, member.gone])
        self.assertEqual([1, ROWS, True], [member.life, member.book.rows(), member.news.quiet])
        self.assertEqual([None, 0], [member.tour.current, member.tour.failed])
        self.assertEqual([[(seat, 1, "alive", None) for seat in FOUNDERS]], member.journal)
        self.assertEqual([(area(0, ROWS), ""), 0, 0], [member.disk.areas(), member.disk.pending, member.disk.log_lines])
        self.assertEqual([0] * 16, state(member)[13])
        self.assertEqual([None] * 8, state(member)[14])

    def test_founders_in_any_order(self):
        for founders in ([6, 4, 1], [4, 1, 6]):
            given = list(founders)
            self.assertEqual(state(founder()), state(founder(founders=given)))
            self.assertEqual(founders, given)

    def test_one_founder(self):
        member = Member.founder(SETTING, 0, [0])
        self.assertEqual([(0, 1, "alive", "")], member.book.rows())
        self.assertEqual([None, None, 0], [member.quick(), member.slow(), member.calls])

    def test_the_tour_begins_behind_the_own_seat(self):
        self.assertEqual([6, 1, 4], [founder(seat).slow() for seat in (4, 6, 1)])


class Joining(Case):
    def test_all_attributes(self):
        member = Member.joiner(SETTING, 4, 2)
        rows = [(2, 0, "alive", ""), (4, 1, "alive", "")]
        self.assertEqual([4, "", 0, 0, 0], [member.seat, member.worth, member.beat, member.rounds, member.calls])
        self.assertEqual([False, True, False], [member.leaving, member.newcomer, member.gone])
        self.assertEqual([1, rows, [(rows[1], 0)]], [member.life, member.book.rows(), member.news.rows()])
        self.assertEqual([[(2, 0, "alive", None), (4, 1, "alive", None)]], member.journal)
        self.assertEqual([(area(0, rows), ""), 0, 0], [member.disk.areas(), member.disk.pending, member.disk.log_lines])

    def test_the_first_visit_is_to_the_sponsor(self):
        for sponsor in (0, 1, 3, 5, 7):
            member = Member.joiner(SETTING, 4, sponsor)
            self.assertEqual([None, 0], [member.tour.current, member.tour.failed])
            for seat in (0, 3, 5, 6, 7):
                member.learn((seat, 1, "alive", ""), sponsor)
            self.assertEqual(sponsor, member.slow())


class Returning(Case):
    def test_all_attributes(self):
        rows = [(1, 3, "alive", "x"), (4, 6, "alive", "ab"), (6, 2, "dead", "")]
        member = returned(*rows)
        own = (4, 7, "alive", "ab")
        self.assertEqual([4, "ab", 0, 0, 0], [member.seat, member.worth, member.beat, member.rounds, member.calls])
        self.assertEqual([False, True, False, 7], [member.leaving, member.newcomer, member.gone, member.life])
        self.assertEqual([rows[0], own, rows[2]], member.book.rows())
        self.assertEqual([(own, 0)], member.news.rows())
        run = [(1, 3, "alive", None), (4, 6, "alive", None), (6, 2, "dead", None), (4, 7, "alive", 4)]
        self.assertEqual([run], member.journal)
        self.assertEqual([(area(0, rows, [own]), ""), 0, 1], [member.disk.areas(), member.disk.pending, member.disk.log_lines])
        self.assertEqual([[0] * 16, [None] * 8], [state(member)[13], state(member)[14]])

    def test_each_mark_about_the_own_seat(self):
        for mark in ("alive", "suspect", "dead"):
            member = returned((4, 6, mark, "ab"), (6, 2, "alive", ""))
            self.assertEqual([(4, 7, "alive", "ab"), (6, 2, "alive", "")], member.book.rows())
            self.assertEqual([None] * 8, [member.doubts.since(seat) for seat in range(8)])

    def test_a_book_without_the_own_seat_or_with_the_mark_left(self):
        for rows in ([], [(1, 3, "alive", "")], [(4, 6, "left", "")], [(4, 6, "left", "ab"), (1, 3, "alive", "")]):
            areas = (area(0, rows), "")
            self.assert_refused(DeedRefused, ("returned", 4), Member.returned, SETTING, 4, areas)
            self.assertEqual((area(0, rows), ""), areas)

    def test_areas_without_a_book(self):
        for areas in (("", ""), (area(0, ROWS)[:-1], "x")):
            with self.assertRaises(NoBook):
                Member.returned(SETTING, 4, areas)

    def test_suspect_marks(self):
        member = returned((1, 3, "suspect", ""), (4, 6, "suspect", ""), (5, 2, "alive", ""), (6, LIFE, "suspect", "b"))
        self.assertEqual([None, 0, None, None, None, None, 0, None], [member.doubts.since(seat) for seat in range(8)])
        for _ in range(2):
            member.end_round()
        self.assertEqual(["suspect", "suspect"], [member.book.of(seat)[2] for seat in (1, 6)])
        member.end_round()
        self.assertEqual([(1, 3, "dead", ""), (6, LIFE, "dead", "b")], [member.book.of(seat) for seat in (1, 6)])

    def test_areas_that_need_mending(self):
        text = area(3, ROWS, [(4, 2, "alive", "new"), (6, 5, "alive", "")])
        member = Member.returned(SETTING, 4, (text[:-1], area(4, ROWS)[:-1]))
        own = (4, 3, "alive", "new")
        self.assertEqual([ROWS[0], own, ROWS[2]], member.book.rows())
        self.assertEqual((area(3, ROWS, [(4, 2, "alive", "new"), own]), ""), member.disk.areas())
        self.assertEqual(2, member.disk.log_lines)

    def test_the_tour_begins_behind_the_own_seat(self):
        self.assertEqual(6, returned(*ROWS).slow())

    def test_the_areas_of_a_member_that_crashed(self):
        # The line of the suspicion has 19 characters with its check and its newline.
        for keep, mark, clock in ((0, "alive", None), (18, "alive", None), (19, "suspect", 0), (99, "suspect", 0)):
            member = founder()
            member.put("ab")
            member.learn((6, 1, "suspect", ""), 1)
            self.assertEqual(19, member.disk.pending)
            member.disk.crash(keep)
            again = Member.returned(SETTING, 4, member.disk.areas())
            self.assertEqual([(4, 3, "alive", "ab"), mark, clock],
                             [again.book.of(4), again.book.of(6)[2], again.doubts.since(6)])


class Learning(Case):
    def test_a_later_saying(self):
        for saying in ((6, 1, "dead", ""), (6, 2, "alive", "x"), (6, LIFE, "left", "")):
            member = founder()
            self.assertIs(True, member.learn(saying, 1))
            self.assertEqual(ROWS[:2] + [saying], member.book.rows())
            self.assertEqual([(saying, 0)], member.news.rows())
            self.assertEqual((6, saying[1], saying[2], 1), member.journal[0][-1])
            self.assertEqual([1, 4], [len(member.journal), len(member.journal[0])])
            self.assertEqual([(area(0, ROWS), ""), 1], [member.disk.areas(), member.disk.log_lines])
            member.disk.flush()
            self.assertEqual((area(0, ROWS, [saying]), ""), member.disk.areas())

    def test_a_seat_of_which_nothing_was_held(self):
        member = founder()
        self.assertIs(True, member.learn((0, 0, "alive", ""), 4))
        self.assertEqual((0, 0, "alive", ""), member.book.of(0))
        self.assertEqual((0, 0, "alive", 4), member.journal[0][-1])

    def test_an_equal_and_an_earlier_saying(self):
        member = founder()
        member.learn((6, 3, "suspect", ""), 1)
        before = state(member)
        for saying in ((6, 3, "suspect", ""), (6, 3, "suspect", "zz"), (6, 3, "alive", ""), (6, 2, "left", ""),
                       (4, 1, "alive", ""), (4, 0, "left", ""), (1, 0, "dead", "")):
            self.assertIs(False, member.learn(saying, 1))
            self.assertEqual(before, state(member))

    def test_a_hot_saying_begins_anew_and_an_earlier_one_does_not(self):
        member = founder()
        member.learn((6, 1, "suspect", ""), 1)
        member.news.told([(6, 1, "suspect", "")])
        member.learn((6, 1, "alive", ""), 1)
        self.assertEqual([((6, 1, "suspect", ""), 1)], member.news.rows())
        member.learn((6, 1, "dead", ""), 1)
        self.assertEqual([((6, 1, "dead", ""), 0)], member.news.rows())

    def test_misses_behind_a_greater_life(self):
        for saying, counts in (((6, 1, "suspect", ""), [1, 1]), ((6, 1, "dead", ""), [1, 1]), ((6, 2, "alive", ""), [0, 0]),
                               ((6, 2, "suspect", ""), [0, 0]), ((0, 0, "alive", ""), [1, 1])):
            member = founder()
            for seat in (0, 6):
                for kind in ("quick", "slow"):
                    member.misses.miss(seat, kind)
            member.learn(saying, 1)
            self.assertEqual(counts, [member.misses.count(6, kind) for kind in ("quick", "slow")])
            others = [0, 0] if saying[0] == 0 else [1, 1]
            self.assertEqual(others, [member.misses.count(0, kind) for kind in ("quick", "slow")])

    def test_doubts(self):
        member = founder()
        for _ in range(2):
            member.end_round()
        member.learn((6, 1, "suspect", ""), 1)
        self.assertEqual([2, None], [member.doubts.since(6), member.doubts.since(1)])
        member.end_round()
        member.learn((6, 2, "suspect", ""), 1)
        self.assertEqual(3, member.doubts.since(6))
        for saying in ((6, 2, "dead", ""), (6, 4, "alive", ""), (6, 5, "left", "")):
            member.learn((6, saying[1] - 1, "suspect", ""), 1)
            self.assertEqual(3, member.doubts.since(6))
            member.learn(saying, 1)
            self.assertIsNone(member.doubts.since(6))

    def test_the_own_saying_is_durable_at_once(self):
        member = founder()
        member.learn((6, 2, "alive", ""), 1)
        self.assertEqual(ROWS, durable(member))
        member.learn((4, 2, "alive", "me"), 4)
        self.assertEqual([ROWS[0], (4, 2, "alive", "me"), (6, 2, "alive", "")], durable(member))
        self.assertEqual(0, member.disk.pending)
        member.learn((6, 2, "dead", ""), 1)
        self.assertEqual([ROWS[0], (4, 2, "alive", "me"), (6, 2, "alive", "")], durable(member))


class OwnSeat(Case):
    """Sayings about the own seat that another one says."""

    def assert_answered(self, member, said, answer):
        """The member took what was said, and answered it at once."""
        held = member.book.rows()
        lines = member.disk.log_lines
        member.misses.miss(member.seat, "slow")
        self.assertIs(True, member.learn(said, 6))
        self.assertEqual(answer, member.book.of(member.seat))
        self.assertEqual([row for row in held if row[0] != 4], [row for row in member.book.rows() if row[0] != 4])
        self.assertEqual([(answer, 0)], [row for row in member.news.rows() if row[0][0] == 4])
        self.assertEqual([(4, said[1], said[2], 6), (4, answer[1], answer[2], 4)], member.journal[0][-2:])
        self.assertEqual([0, lines + 2], [member.disk.pending, member.disk.log_lines])
        self.assertEqual(member.book.rows(), durable(member))
        self.assertEqual([None, 0], [member.doubts.since(4), member.misses.count(4, "slow")])
        self.assertEqual([answer[1], answer[3]], [member.life, member.worth])

    def test_each_mark(self):
        for mark in ("suspect", "dead", "left"):
            self.assert_answered(founder(), (4, 1, mark, ""), (4, 2, "alive", ""))
        for mark in ("alive", "suspect", "dead", "left"):
            self.assert_answered(founder(), (4, 7, mark, ""), (4, 8, "alive", ""))
        self.assert_answered(founder(), (4, LIFE, "alive", ""), (4, LIFE + 1, "alive", ""))

    def test_the_own_worth_is_told(self):
        member = founder()
        member.put("ab")
        self.assert_answered(member, (4, 2, "dead", "ab"), (4, 3, "alive", "ab"))
        self.assert_answered(member, (4, 9, "alive", "other"), (4, 10, "alive", "ab"))

    def test_while_leaving(self):
        for said in ((4, 3, "alive", "ab"), (4, 3, "suspect", "ab"), (4, 3, "dead", "ab"), (4, 5, "left", "ab")):
            member = founder()
            member.put("ab")
            member.leave()
            self.assertEqual((4, 2, "left", "ab"), member.book.of(4))
            self.assert_answered(member, said, (4, said[1] + 1, "left", "ab"))
            self.assertEqual([True, False], [member.leaving, member.gone])

    def test_what_is_not_later_is_not_answered(self):
        member = founder()
        member.put("ab")
        before = state(member)
        for said in ((4, 2, "alive", "ab"), (4, 1, "left", ""), (4, 0, "dead", "")):
            self.assertIs(False, member.learn(said, 6))
        self.assertEqual(before, state(member))


class Putting(Case):
    def test_the_same_and_another_worth(self):
        member = founder()
        for life, worth in enumerate(("ab", "ab", "", "", "abcdefghij09"), start=2):
            self.assertIsNone(member.put(worth))
            own = (4, life, "alive", worth)
            self.assertEqual([own, worth, life], [member.book.of(4), member.worth, member.life])
            self.assertEqual([[(own, 0)], 0], [member.news.rows(), member.disk.pending])
            self.assertEqual((4, life, "alive", 4), member.journal[0][-1])
            self.assertEqual([ROWS[0], own, ROWS[2]], durable(member))

    def test_a_wrong_worth(self):
        member = founder()
        before = state(member)
        for worth in ("A", "a b", "-", "abcdefghijklm", "\u00e4", None, 0, True, b"a", ["a"], ("a",), "a\n"):
            self.assert_refused(DeedRefused, ("put", 4), member.put, worth)
            self.assertEqual(before, state(member))

    def test_a_member_that_is_leaving(self):
        member = founder()
        member.leave()
        before = state(member)
        for worth in ("ab", "", "A"):
            self.assert_refused(DeedRefused, ("put", 4), member.put, worth)
        self.assert_refused(DeedRefused, ("leave", 4), member.leave)
        self.assertEqual(before, state(member))

    def test_leave(self):
        member = founder()
        member.put("ab")
        self.assertIsNone(member.leave())
        own = (4, 2, "left", "ab")
        self.assertEqual([True, own, "ab", 2], [member.leaving, member.book.of(4), member.worth, member.life])
        self.assertEqual([[(own, 0)], 0], [member.news.rows(), member.disk.pending])
        self.assertEqual((4, 2, "left", 4), member.journal[0][-1])
        self.assertEqual([ROWS[0], own, ROWS[2]], durable(member))


class Suspecting(Case):
    def test_a_seat_that_is_alive(self):
        member = founder()
        member.learn((6, 5, "alive", "w"), 6)
        member.end_round()
        self.assertIsNone(member.suspect(6))
        self.assertEqual([(6, 5, "suspect", "w"), 1], [member.book.of(6), member.doubts.since(6)])
        self.assertEqual([(6, 5, "suspect", 4), [((6, 5, "suspect", "w"), 0)]], [member.journal[0][-1], member.news.rows()])
        self.assertEqual(ROWS, durable(member))

    def test_a_suspect_a_dead_and_a_left_seat(self):
        for mark in ("suspect", "dead", "left"):
            member = founder()
            member.learn((6, 5, mark, "w"), 1)
            before = state(member)
            self.assertIsNone(member.suspect(6))
            self.assertEqual(before, state(member))

    def test_a_seat_that_is_not_held_and_the_own_seat(self):
        member = founder()
        before = state(member)
        self.assertEqual([None, None], [member.suspect(0), member.suspect(4)])
        self.assertEqual(before, state(member))


class Greetings(Case):
    def test_with_and_without_a_row_about_the_receiver(self):
        member = founder()
        member.put("ab")
        own = (4, 2, "alive", "ab")
        self.assertEqual([own, (6, 1, "alive", "")], member.greetings(6))
        self.assertEqual([own], member.greetings(0))
        member.learn((0, 3, "dead", "x"), 1)
        self.assertEqual([own, (0, 3, "dead", "x")], member.greetings(0))

    def test_an_ask(self):
        member = founder()
        seat, ask = member.quick()
        # At beat 0 the offset is 4: behind seat 4 comes seat 1, 5 steps away.
        self.assertEqual([1, Ask], [seat, ask.__class__])
        self.assertEqual(("ask", 4, 1, 0, 1, ((4, 1, "alive", ""), (1, 1, "alive", ""))), ask.parts())

    def test_picked_sayings_follow_in_their_order(self):
        member = founder()
        rows = [(0, 2, "dead", ""), (5, 3, "dead", ""), (7, 1, "left", "")]
        for row in rows:
            member.learn(row, 1)
        member.news.told([rows[0]])
        _, ask = member.quick()
        self.assertEqual([(4, 1, "alive", ""), (1, 1, "alive", ""), rows[1], rows[2], rows[0]], ask.sayings)

    def test_picked_sayings_that_are_greetings(self):
        member = founder()
        member.put("ab")
        member.learn((1, 4, "alive", "c"), 6)
        member.learn((7, 1, "alive", ""), 6)
        _, ask = member.quick()
        self.assertEqual([(4, 2, "alive", "ab"), (1, 4, "alive", "c"), (7, 1, "alive", "")], ask.sayings)
        # They are told nevertheless.
        self.assertEqual([1, 1, 1], [tellings for _, tellings in member.news.rows()])

    def test_no_letter_has_more_than_room_and_two_items(self):
        member = founder()
        for seat in (0, 2, 3, 5, 6, 7):
            member.learn((seat, 2, "dead", ""), 1)
        _, ask = member.quick()
        self.assertEqual([6, [0, 2, 3, 5]], [ask.size, [saying[0] for saying in ask.sayings[2:]]])
        answer = member.answer(Ask(1, 4, 0, 1, []))
        self.assertEqual([6, [6, 7, 0, 2]], [answer.size, [saying[0] for saying in answer.sayings[2:]]])

    def test_they_are_told_anew_for_each_letter(self):
        member = founder()
        self.assertEqual((4, 1, "alive", ""), member.quick()[1].sayings[0])
        member.put("ab")
        self.assertEqual((4, 2, "alive", "ab"), member.quick()[1].sayings[0])
        member.leave()
        self.assertEqual((4, 2, "left", "ab"), member.quick()[1].sayings[0])


class Quick(Case):
    def test_without_a_target(self):
        member = Member.founder(SETTING, 4, [4, 5])
        member.put("a")
        before = state(member)
        # Seat 5 is one step away: a target in the phase 0 alone.
        self.assertIsNone(member.quick())
        self.assertEqual(before, state(member))
        for _ in range(4):
            member.end_round()
        self.assertEqual(5, member.quick()[0])

    def test_the_plan_is_followed(self):
        member = Member.founder(SETTING, 4, [0, 1, 2, 4, 5, 6])
        told = []
        for _ in range(7):
            told.append(member.quick()[0])
            member.end_round()
        self.assertEqual([0, 0, 6, 6, 5, 5, 0], told)

    def test_marks_other_than_alive_are_no_targets(self):
        for mark in ("suspect", "dead", "left"):
            member = founder()
            member.learn((1, 1, mark, ""), 6)
            self.assertIsNone(member.quick())
            member.learn((0, 1, "alive", ""), 6)
            self.assertEqual(0, member.quick()[0])

    def test_calls_and_numbers(self):
        member = founder()
        for number in (1, 2, 3):
            self.assertEqual([number, number], [member.quick()[1].number, member.calls])
        member.slow()
        self.assertEqual([5, 5], [member.quick()[1].number, member.calls])

    def test_tellings(self):
        member = founder()
        member.put("a")
        for number in range(1, 6):
            member.quick()
            self.assertEqual([((4, 2, "alive", "a"), number)], member.news.rows())
        self.assertEqual((4, 2, "alive", "a"), member.quick()[1].sayings[0])
        self.assertIs(True, member.news.quiet)

    def test_a_letter_has_the_beat_of_the_caller(self):
        member = founder()
        member.hear(Answer(6, 4, 12, 9, []))
        self.assertEqual([12, 1], [member.quick()[1].beat, member.quick()[0]])

    def test_a_leaving_member_goes_on(self):
        member = founder()
        member.leave()
        seat, ask = member.quick()
        self.assertEqual([1, [(4, 1, "left", ""), (1, 1, "alive", "")]], [seat, ask.sayings])


class Hearing(Case):
    def test_answer(self):
        member = founder()
        ask = Ask(6, 4, 7, 33, [(6, 3, "alive", "z"), (4, 1, "alive", ""), (0, 2, "dead", "")])
        answer = member.answer(ask)
        self.assertIs(Answer, answer.__class__)
        told = ((4, 1, "alive", ""), (6, 3, "alive", "z"), (0, 2, "dead", ""))
        self.assertEqual(("answer", 4, 6, 7, 33, told), answer.parts())
        self.assertEqual([7, 0], [member.beat, member.calls])
        self.assertEqual([*ROWS[:2], (6, 3, "alive", "z")], member.book.rows()[1:])
        self.assertEqual([(0, 2, "dead", 6), (6, 3, "alive", 6)], sorted(member.journal[0][3:]))

    def test_an_answer_counts_no_telling(self):
        member = founder()
        member.put("a")
        member.answer(Ask(6, 4, 0, 1, []))
        self.assertEqual([((4, 2, "alive", "a"), 0)], member.news.rows())

    def test_an_answer_tells_what_came_of_the_hearing(self):
        member = founder()
        answer = member.answer(Ask(6, 4, 0, 1, [(4, 1, "suspect", ""), (6, 1, "alive", "")]))
        self.assertEqual([(4, 2, "alive", ""), (6, 1, "alive", "")], answer.sayings)

    def test_an_ask_of_a_seat_that_is_not_held(self):
        member = founder()
        self.assertEqual([(4, 1, "alive", "")], member.answer(Ask(0, 4, 0, 1, [])).sayings)

    def test_a_greater_an_equal_and_a_smaller_beat(self):
        for beat, told in ((0, 3), (2, 3), (3, 3), (4, 4), (10 ** 59, 10 ** 59)):
            for heard in (lambda member: member.hear(Answer(6, 4, beat, 1, [])),
                          lambda member: member.answer(Ask(6, 4, beat, 1, []))):
                member = founder()
                for _ in range(3):
                    member.end_round()
                answer = heard(member)
                self.assertEqual(told, member.beat)
                self.assertEqual([3, told], [member.rounds, told if answer is None else answer.beat])

    def test_hear_learns_in_order_with_the_sender_as_source(self):
        member = founder()
        sayings = [(0, 1, "alive", ""), (0, 1, "dead", ""), (0, 0, "left", ""), (6, 4, "suspect", ""), (0, 1, "dead", "")]
        self.assertIsNone(member.hear(Answer(6, 4, 0, 1, sayings)))
        self.assertEqual([(0, 1, "alive", 6), (0, 1, "dead", 6), (6, 4, "suspect", 6)], member.journal[0][3:])

    def test_every_kind_of_letter(self):
        saying = (0, 1, "alive", "")
        for letter in (Ask(6, 4, 9, 1, [saying]), Answer(6, 4, 9, 1, [saying]),
                       Sums(6, 4, 9, 1, [saying], [(0, 8, 5, 5, 5), (1, 1, 0, 0, 0)], 3, True)):
            member = founder()
            self.assertIsNone(member.hear(letter))
            self.assertEqual([9, saying, ROWS], [member.beat, member.book.of(0), member.book.rows()[1:]])
        for letter in (Probe(6, 4, 9, 1, [], 1), Probed(6, 4, 9, 1, [], 1, True)):
            member = founder()
            member.hear(letter)
            self.assertEqual([9, ROWS, True], [member.beat, member.book.rows(), member.news.quiet])

    def test_the_same_letter_once_more(self):
        member = founder()
        letter = Answer(6, 4, 2, 1, [(0, 1, "alive", ""), (4, 3, "dead", "")])
        member.hear(letter)
        before = state(member)
        member.hear(letter)
        self.assertEqual(before, state(member))
        self.assertEqual([(0, 1, "alive", ""), (4, 3, "dead", "")], letter.sayings)


class Slow(Case):
    def test_whom_it_aims_at(self):
        member = founder(founders=[1, 2, 4, 6, 7])
        member.learn((1, 1, "left", ""), 6)
        member.learn((6, 1, "dead", ""), 2)
        member.learn((7, 1, "suspect", ""), 2)
        told = []
        for _ in range(4):
            told.append(member.slow())
            member.tour.report(True)
        self.assertEqual([6, 7, 2, 6], told)

    def test_nobody_to_aim_at(self):
        member = Member.founder(SETTING, 4, [4, 6])
        member.learn((6, 1, "left", ""), 6)
        self.assertEqual([None, 0, None], [member.slow(), member.calls, member.tour.current])

    def test_calls(self):
        member = founder()
        self.assertEqual([6, 1], [member.slow(), member.calls])
        self.assertEqual([6, 2], [member.slow(), member.calls])
        member.tour.report(False)
        self.assertEqual([6, 3, 1], [member.slow(), member.calls, member.tour.failed])

    def test_the_stripe_of_a_call_behind_passed_calls(self):
        setting = Setting(3, 2, 3)
        member = founder(setting=setting)
        told = []
        for passed in (True, True, True, True, True, True, True, False, False, True, True):
            seat = member.slow()
            told.append((seat, member.stripe(seat)))
            member.tour.report(passed)
        # Failed calls leave the stripe; behind the last of the three stripes comes the first one again.
        self.assertEqual([(6, 0), (1, 0), (6, 1), (1, 1), (6, 2), (1, 2), (6, 0), (1, 0), (1, 0), (6, 1), (1, 0)], told)
        self.assertEqual(0, member.stripe(7))

    def test_the_stripe_of_a_returned_member_begins_anew(self):
        member = returned(*ROWS)
        seat = member.slow()
        self.assertEqual([6, 0], [seat, member.stripe(seat)])

    def test_one_stripe_alone(self):
        member = founder(setting=Setting(3, 2, 8))
        for _ in range(4):
            seat = member.slow()
            self.assertEqual(0, member.stripe(seat))
            member.tour.report(True)

    def test_the_own_seat_and_the_mark_of_the_own_saying_do_not_count(self):
        member = Member.founder(SETTING, 4, [4])
        member.leave()
        self.assertIsNone(member.slow())


class Rounds(Case):
    def test_rounds_and_beat(self):
        member = founder()
        self.assertIsNone(member.end_round())
        self.assertEqual([1, 1], [member.rounds, member.beat])
        member.hear(Answer(6, 4, 9, 1, []))
        member.end_round()
        self.assertEqual([2, 10], [member.rounds, member.beat])

    def test_dues_are_learned_in_order(self):
        member = founder(founders=[0, 1, 4, 6])
        member.suspect(6)
        member.end_round()
        member.suspect(0)
        member.suspect(1)
        for _ in range(2):
            self.assertEqual("suspect", member.book.of(6)[2])
            member.end_round()
        self.assertEqual([(6, 1, "dead", ""), None], [member.book.of(6), member.doubts.since(6)])
        self.assertEqual((6, 1, "dead", 4), member.journal[0][-1])
        member.end_round()
        self.assertEqual([(0, 1, "dead", 4), (1, 1, "dead", 4)], member.journal[0][-2:])
        self.assertIs(True, member.news.hot(0))

    def test_a_doubt_that_was_lifted_is_not_due(self):
        member = founder()
        member.suspect(6)
        member.learn((6, 2, "alive", ""), 1)
        for _ in range(6):
            member.end_round()
        self.assertEqual((6, 2, "alive", ""), member.book.of(6))

    def test_the_flush_at_every_fourth_round(self):
        member = founder()
        flushed = []
        for life in range(2, 12):
            member.learn((6, life, "alive", ""), 6)
            member.end_round()
            flushed.append(member.disk.pending == 0)
            self.assertEqual(flushed[-1], (6, life, "alive", "") in durable(member))
        self.assertEqual([at % 4 == 0 for at in range(1, 11)], flushed)

    def test_the_dues_of_a_fourth_round_are_flushed(self):
        member = founder()
        member.end_round()
        member.suspect(6)
        for _ in range(3):
            member.end_round()
        self.assertIn((6, 1, "dead", ""), durable(member))

    def test_the_rewrite_at_log_most(self):
        member = founder()
        for life in range(2, 13):
            member.learn((6, life, "alive", ""), 6)
        member.end_round()
        self.assertEqual(11, member.disk.log_lines)
        member.learn((6, 13, "alive", ""), 6)
        self.assertEqual(12, member.disk.log_lines)
        log = [(6, life, "alive", "") for life in range(2, 14)]
        member.end_round()
        rewritten = area(1, ROWS[:2] + log[-1:])
        self.assertEqual([0, 2, (area(0, ROWS), "")], [member.disk.log_lines, member.rounds, member.disk.areas()])
        for _ in range(2):
            self.assertEqual((area(0, ROWS), ""), member.disk.areas())
            member.end_round()
        self.assertEqual((area(0, ROWS, log), rewritten), member.disk.areas())

    def test_the_rewrite_stands_behind_the_flush(self):
        member = founder()
        for _ in range(3):
            member.end_round()
        for life in range(2, 15):
            member.learn((6, life, "alive", ""), 6)
        member.end_round()
        # The fourth round flushes the log; what is rewritten then waits for the next flush.
        log = [(6, life, "alive", "") for life in range(2, 15)]
        self.assertEqual((area(0, ROWS, log), ""), member.disk.areas())
        self.assertEqual([0, len(area(1, ROWS[:2] + log[-1:]))], [member.disk.log_lines, member.disk.pending])
        member.put("a")
        self.assertEqual(area(1, ROWS[:2] + log[-1:], [(4, 2, "alive", "a")]), member.disk.areas()[1])


class Gone(Case):
    def test_members_that_do_not_leave(self):
        member = founder()
        for _ in range(30):
            member.end_round()
            self.assertIs(False, member.gone)

    def test_the_own_saying_is_not_hot_any_longer(self):
        member = founder()
        member.end_round()
        member.leave()
        for _ in range(SETTING.cycle):
            self.assertIs(False, member.gone)
            member.quick()
        self.assertIs(True, member.gone)

    def test_two_passes_of_own_rounds_since_leave(self):
        for before in (0, 5):
            member = Member.founder(SETTING, 4, [4])
            for _ in range(before):
                member.end_round()
            member.leave()
            for _ in range(2 * SETTING.cycle):
                self.assertIs(False, member.gone)
                member.end_round()
            self.assertIs(True, member.gone)
            self.assertIs(True, member.news.hot(4))

    def test_an_answer_makes_the_own_saying_hot_again(self):
        member = founder()
        member.leave()
        for _ in range(SETTING.cycle - 1):
            member.quick()
        member.learn((4, 1, "left", ""), 6)
        self.assertIs(False, member.gone)
        member.learn((4, 2, "suspect", ""), 6)
        member.quick()
        self.assertEqual([False, (4, 3, "left", "")], [member.gone, member.book.of(4)])


class Apart(Case):
    def test_members_share_nothing(self):
        founders = list(FOUNDERS)
        one, other = founder(1, founders=founders), founder(4, founders=founders)
        before = state(other)
        one.put("a")
        one.leave()
        one.suspect(6)
        one.slow()
        one.end_round()
        founders.clear()
        self.assertEqual(before, state(other))
        self.assertEqual(ROWS, Book(SETTING, ROWS).rows())
