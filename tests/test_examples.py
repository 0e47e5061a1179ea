"""The examples at the end of the document."""

from livingroll.book import Book
from livingroll.bounds import quick_bound
from livingroll.calm import settle_bound
from livingroll.desk import Desk
from livingroll.errors import DeedRefused, InvalidPlan, InvalidSetting
from livingroll.exchange import reconcile
from livingroll.keys import keeper, place_of
from livingroll.mending import disk_line
from livingroll.papers import explain_paper, judge_plan
from livingroll.plan import fingers, target
from livingroll.sayings import format_saying, later, rank
from livingroll.setting import Setting, arc, distance, first_from
from livingroll.spread import rounds_to_all
from livingroll.watch import Watch
from tests.helpers import Case


class Examples(Case):
    def test_setting(self):
        self.assertEqual("bits=3 patience=2 room=4 grace=6 helpers=1", str(Setting(3, 2, 4)))

    def test_invalid_setting(self):
        self.assert_refused(InvalidSetting, "bits", Setting, 9, 1, 4)

    def test_ring(self):
        setting = Setting(3, 1, 4)
        told = [distance(setting, 6, 1), first_from(setting, 7, [1, 6]), arc(setting, 6, 2, [0, 1, 2, 5, 7])]
        self.assertEqual([3, 1, [7, 0, 1, 2]], told)

    def test_rank(self):
        self.assertEqual([1, 15, 0], [rank((2, 0, "alive", "")), rank((2, 3, "dead", "ab")), rank(None)])

    def test_later(self):
        self.assertEqual((2, 4, "alive", "ab"), later((2, 3, "dead", "ab"), (2, 4, "alive", "ab")))

    def test_format_saying(self):
        self.assertEqual("2 4 alive -", format_saying((2, 4, "alive", "")))

    def test_joined_books(self):
        setting = Setting(2, 1, 4)
        one = Book(setting, [(0, 2, "alive", "a"), (1, 1, "suspect", "")])
        other = Book(setting, [(1, 1, "dead", ""), (0, 1, "left", "")])
        self.assertEqual([(0, 2, "alive", "a"), (1, 1, "dead", "")], (one | other).rows())

    def test_plan(self):
        setting = Setting(3, 1, 4)
        told = [target(setting, 1, 0, [1, 2, 6]), fingers(setting, 1, [1, 2, 6]), fingers(setting, 6, [1, 2, 6])]
        self.assertEqual([6, [6, 6, 2], [2, 1, 1]], told)

    def test_rounds_to_all(self):
        setting = Setting(3, 1, 4)
        told = [rounds_to_all(setting, [0, 3, 5, 7], [3], start, []) for start in (1, 0)]
        self.assertEqual([5, 3], told)

    def test_quick_bound(self):
        self.assertEqual([3, 6, 11], [quick_bound(Setting(*row, 4)) for row in ((1, 3), (2, 2), (3, 2))])

    def test_judged_plan(self):
        self.assertEqual((2, 2), judge_plan([4, 1, 7], 4, [[(4, 1)], [(4, 7)]]))

    def test_refused_plan(self):
        self.assert_refused(InvalidPlan, 1, judge_plan, [4, 1, 7], 4, [[(4, 1)], [(7, 1)]])

    def test_explained_paper(self):
        self.assertEqual(([[0]], []), explain_paper(Setting(2, 1, 4), [0, 1, 2], 0, 0, {}, 1))

    def test_reconciled_books(self):
        setting = Setting(2, 1, 2)
        one = Book(setting, [(0, 2, "alive", "a")])
        other = Book(setting, [(3, 1, "dead", "")])
        first, second, _ = reconcile(setting, one, other)
        self.assertEqual([[(0, 2, "alive", "a"), (3, 1, "dead", "")], True], [first.rows(), second == first])

    def test_disk_line(self):
        self.assertEqual("end 0 0989\n", disk_line("end 0"))

    def test_settle_bound(self):
        self.assertEqual(35, settle_bound(Setting(2, 2, 4, grace=3), 4, 4))

    def test_keys(self):
        setting = Setting(3, 1, 4)
        self.assertEqual([1, 5], [place_of(setting, "ab"), keeper(setting, "ab", [0, 5])])

    def test_watch(self):
        book = Book(Setting(2, 1, 4), [(0, 2, "alive", "a"), (3, 1, "dead", "")])
        self.assertEqual([(0, "joined", 2, "a"), (3, "dead", 1, "")], Watch().see(book))

    def test_desk(self):
        desk = Desk(Setting(2, 1, 4, grace=2), [0, 2])
        desk.do("put 0 ab")
        desk.do("tick")
        self.assertEqual("  0 up          1     2 0:ab,2:-\n  2 up          1     1 0:ab,2:-\n", desk.show())

    def test_refused_line(self):
        desk = Desk(Setting(2, 1, 4), [0, 2])
        self.assert_refused(DeedRefused, ("put", 1, "ab"), desk.do, "put 1 ab")
