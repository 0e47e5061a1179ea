"""Point 17: the sayings that are hot."""

from livingroll.news import News
from livingroll.setting import Setting
from tests.helpers import Case

SETTING = Setting(3, 1, 2)
A, B, C, D = [(seat, 1, "alive", "") for seat in (0, 2, 5, 7)]


def made(*sayings, setting=SETTING):
    news = News(setting)
    for saying in sayings:
        news.note(saying)
    return news


class Noting(Case):
    def test_nothing_is_hot_at_first(self):
        news = News(SETTING)
        self.assertEqual([[], [], 0], [news.rows(), news.pick(), len(news)])
        self.assertIs(True, news.quiet)
        self.assertEqual([], [seat for seat in range(8) if news.hot(seat)])

    def test_a_saying_becomes_hot_with_no_tellings(self):
        news = News(SETTING)
        self.assertIsNone(news.note(B))
        self.assertEqual([(B, 0)], news.rows())
        self.assertIs(True, news.hot(2))
        self.assertIs(False, news.hot(1))
        self.assertIs(False, news.quiet)
        self.assertEqual(1, len(news))

    def test_rows_ascend_by_seat(self):
        news = made(D, A, C, B)
        self.assertEqual([(A, 0), (B, 0), (C, 0), (D, 0)], news.rows())
        self.assertEqual([0, 2, 5, 7], [seat for seat in range(8) if news.hot(seat)])
        self.assertEqual(4, len(news))

    def test_an_equal_saying_begins_anew(self):
        news = made(A, B)
        news.told([A, B])
        news.note(A)
        self.assertEqual([(A, 0), (B, 1)], news.rows())

    def test_another_saying_about_the_seat_replaces_it(self):
        for other in ((2, 1, "dead", ""), (2, 9, "alive", "x"), (2, 0, "alive", "")):
            news = made(A, B)
            news.told([A, B])
            news.note(other)
            self.assertEqual([(A, 1), (other, 0)], news.rows())
            self.assertEqual(2, len(news))

    def test_rows_are_new(self):
        news = made(A, B)
        news.rows().clear()
        news.pick().clear()
        self.assertEqual([(A, 0), (B, 0)], news.rows())


class Picking(Case):
    def test_at_most_room(self):
        for room in (1, 2, 3, 4, 5):
            news = made(D, A, C, B, setting=Setting(3, 1, room))
            self.assertEqual([A, B, C, D][:room], news.pick())

    def test_the_fewest_tellings_first_and_ties_by_the_lower_seat(self):
        news = made(A, B, C, D, setting=Setting(3, 2, 4))
        news.told([A, B, C])
        news.told([A, C])
        self.assertEqual([D, B, A, C], news.pick())
        news.told([D])
        self.assertEqual([B, D, A, C], news.pick())
        news.told([B, D, B])
        self.assertEqual([A, B, C, D], news.pick())

    def test_lives_marks_and_worths_do_not_count_for_the_order(self):
        sayings = [(0, 9, "left", "z"), (3, 5, "dead", "a"), (4, 0, "alive", ""), (6, 7, "suspect", "m")]
        news = made(*sayings[::-1], setting=Setting(3, 2, 4))
        self.assertEqual(sayings, news.pick())
        news.told(sayings[1:2])
        self.assertEqual([sayings[0], *sayings[2:], sayings[1]], news.pick())

    def test_room_counts_behind_the_order(self):
        news = made(A, B, C, D)
        news.told([A, B])
        self.assertEqual([C, D], news.pick())
        news.told([D])
        self.assertEqual([C, A], news.pick())

    def test_picking_tells_nothing(self):
        news = made(A, B)
        news.pick()
        news.pick()
        self.assertEqual([(A, 0), (B, 0)], news.rows())


class Telling(Case):
    def test_only_those_in_the_list_count(self):
        news = made(A, B, C)
        self.assertIsNone(news.told([C, A]))
        self.assertEqual([(A, 1), (B, 0), (C, 1)], news.rows())
        news.told([])
        self.assertEqual([(A, 1), (B, 0), (C, 1)], news.rows())

    def test_a_saying_that_stands_twice_counts_once(self):
        news = made(A, B)
        news.told([A, A, A])
        self.assertEqual([(A, 1), (B, 0)], news.rows())

    def test_an_equal_value_counts(self):
        news = made((0, 1, "alive", "ab"))
        news.told([tuple([0, 1, "alive", "".join(["a", "b"])])])
        self.assertEqual([((0, 1, "alive", "ab"), 1)], news.rows())

    def test_other_sayings_about_the_same_seat_do_not_count(self):
        news = made(A, B)
        news.told([(0, 1, "suspect", ""), (0, 2, "alive", ""), (0, 1, "alive", "x"), (2, 0, "alive", "")])
        self.assertEqual([(A, 0), (B, 0)], news.rows())

    def test_sayings_that_are_not_hot_do_not_count(self):
        news = made(A)
        news.told([B, C, D])
        self.assertEqual([(A, 0)], news.rows())
        self.assertIs(False, news.hot(2))

    def test_the_list_stays(self):
        told = [B, A, A, C]
        made(A, B).told(told)
        self.assertEqual([B, A, A, C], told)

    def test_the_telling_that_reaches_the_cycle(self):
        for bits, patience in ((1, 1), (1, 2), (3, 1), (2, 3), (8, 6)):
            setting = Setting(bits, patience, 4)
            news = made((0, 1, "alive", ""), (1, 1, "alive", ""), setting=setting)
            for tellings in range(1, bits * patience):
                news.told([(1, 1, "alive", "")])
                self.assertEqual([((0, 1, "alive", ""), 0), ((1, 1, "alive", ""), tellings)], news.rows())
            news.told([(1, 1, "alive", "")])
            self.assertEqual([((0, 1, "alive", ""), 0)], news.rows())
            self.assertEqual([True, False], [news.hot(seat) for seat in (0, 1)])
            self.assertEqual(1, len(news))

    def test_several_that_reach_the_cycle_at_once(self):
        news = made(A, B, C, D)
        for _ in range(2):
            news.told([A, B, D])
        news.told([A, B, C, D])
        self.assertEqual([(C, 1)], news.rows())
        self.assertIs(False, news.quiet)
        news.told([C])
        news.told([C])
        self.assertEqual([[], [], 0], [news.rows(), news.pick(), len(news)])
        self.assertIs(True, news.quiet)

    def test_what_has_cooled_may_become_hot_again(self):
        news = made(A)
        for _ in range(3):
            news.told([A])
        self.assertIs(True, news.quiet)
        news.note(A)
        self.assertEqual([(A, 0)], news.rows())
