"""Points 30 and 31: the sides of a slow call, and whole exchanges."""

import random

from livingroll.book import Book
from livingroll.exchange import Side, item_bound, letter_bound, reconcile
from livingroll.ranges import moments
from livingroll.sayings import MARKS, rank
from livingroll.setting import Setting
from tests.helpers import Case
from tests.test_ranges import changed, drawn_book

SETTING = Setting(3, 1, 4)
ROWS = [(0, 2, "alive", "a"), (1, 1, "suspect", ""), (4, 3, "dead", "b"), (6, 9, "left", "")]


def own_sum(book, low, width):
    return (low, width, *moments(book, low, width))


def all_items(side):
    """All that is queued, letter by letter."""
    letters = []
    while not side.idle:
        letters.append(side.next_items())
    return letters


class Beginning(Case):
    def test_a_new_side_is_idle(self):
        side = Side(SETTING, Book(SETTING, ROWS))
        self.assertIs(True, side.idle)
        self.assertEqual(([], []), side.next_items())
        self.assertIs(True, side.idle)

    def test_the_first_and_the_last_stripe(self):
        book = Book(SETTING, ROWS)
        for stripe, seats in ((0, (0, 1, 2, 3)), (1, (4, 5, 6, 7))):
            side = Side(SETTING, book)
            self.assertIsNone(side.begin(stripe))
            self.assertIs(False, side.idle)
            sums = [own_sum(book, 0, 8)] + [own_sum(book, seat, 1) for seat in seats]
            self.assertEqual([([], sums[:4]), ([], sums[4:])], all_items(side))

    def test_a_stripe_that_ends_behind_the_ring(self):
        setting = Setting(3, 1, 3)
        book = Book(setting, ROWS)
        told = [[0, 1, 2], [3, 4, 5], [6, 7]]
        for stripe in range(setting.stripes):
            side = Side(setting, book)
            side.begin(stripe)
            sums = [own_sum(book, 0, 8)] + [own_sum(book, seat, 1) for seat in told[stripe]]
            self.assertEqual(sums, [row for _, rows in all_items(side) for row in rows])
        side = Side(Setting(1, 1, 64), Book(setting, ROWS[:2]))
        side.begin(0)
        self.assertEqual([([], [(0, 2, 15, 21, 33), (0, 1, 9, 9, 9), (1, 1, 6, 6, 6)])], all_items(side))

    def test_behind_what_is_queued(self):
        setting = Setting(3, 1, 2)
        book = Book(setting, ROWS)
        side = Side(setting, book)
        side.receive([(4, 2, "alive", "")], [])
        side.begin(3)
        side.begin(0)
        sums = [own_sum(book, *span) for span in ((0, 8), (6, 1), (7, 1), (0, 8), (0, 1), (1, 1))]
        self.assertEqual([([ROWS[2]], sums[:1]), ([], sums[1:3]), ([], sums[3:5]), ([], sums[5:])], all_items(side))


class Letters(Case):
    def side_with(self, room, many):
        """A side with so many queued sayings, those of the seats 0, 1, ..."""
        setting = Setting(4, 1, room)
        rows = [(seat, 5, "alive", "") for seat in range(16)]
        side = Side(setting, Book(setting, rows))
        side.receive([(seat, 1, "left", "x") for seat in range(many)], [])
        return side, rows

    def test_fewer_items_than_room_exactly_room_and_more(self):
        for room, many in ((4, 0), (4, 3), (4, 4), (4, 5), (4, 12), (1, 3), (64, 16)):
            side, rows = self.side_with(room, many)
            letters = all_items(side)
            told = [rows[at:min(at + room, many)] for at in range(0, many, room)]
            self.assertEqual(told, [sayings for sayings, _ in letters])
            self.assertEqual([[]] * len(letters), [sums for _, sums in letters])

    def test_idle(self):
        side, _ = self.side_with(4, 5)
        told = [side.idle]
        for _ in range(3):
            side.next_items()
            told.append(side.idle)
        self.assertEqual([False, False, True, True], told)

    def test_kinds_of_values(self):
        side, _ = self.side_with(4, 2)
        items = side.next_items()
        self.assertEqual([tuple, list, list], [items.__class__, items[0].__class__, items[1].__class__])

    def test_sayings_and_sums_in_the_order_of_the_queue(self):
        setting = Setting(3, 1, 5)
        book = Book(setting, ROWS)
        side = Side(setting, book)
        side.receive([], [(4, 1, 0, 0, 0), (2, 1, 1, 1, 1)])
        side.receive([(1, 0, "alive", "")], [(6, 2, 9, 9, 9)])
        side.receive([(0, 0, "alive", "")], [])
        sums = [own_sum(book, *span) for span in ((2, 1), (6, 1), (7, 1))]
        self.assertEqual([([ROWS[2], ROWS[1]], sums), ([ROWS[0]], [])], all_items(side))

    def test_returned_lists_may_be_changed(self):
        side, rows = self.side_with(4, 6)
        side.next_items()[0].clear()
        self.assertEqual([(rows[4:6], [])], all_items(side))


class Receiving(Case):
    def received(self, sayings, sums, rows=ROWS):
        """Return what receive returns, what is queued then, and the book."""
        book = Book(SETTING, rows)
        side = Side(SETTING, book)
        given = (list(sayings), list(sums))
        taken = side.receive(*given)
        self.assertEqual((list(sayings), list(sums)), given)
        letters = all_items(side)
        return taken, [item for letter in letters for items in letter for item in items], book.rows()

    def test_a_later_saying(self):
        for saying in ((1, 1, "dead", "zz"), (1, 2, "alive", ""), (4, 3, "left", "")):
            taken, queued, rows = self.received([saying], [])
            self.assertEqual([[saying], []], [taken, queued])
            self.assertEqual(Book(SETTING, ROWS + [saying]).rows(), rows)

    def test_a_saying_about_a_seat_of_which_nothing_is_held(self):
        saying = (7, 0, "alive", "")
        self.assertEqual(([saying], [], ROWS + [saying]), self.received([saying], []))

    def test_an_earlier_saying(self):
        for saying in ((1, 1, "alive", ""), (1, 0, "left", "q")):
            self.assertEqual(([], [ROWS[1]], ROWS), self.received([saying], []))

    def test_an_equal_saying(self):
        self.assertEqual(([], [], ROWS), self.received([ROWS[1]], []))
        self.assertEqual(([], [], ROWS), self.received([(1, 1, "suspect", "zz")], []))

    def test_several_in_order(self):
        given = [(1, 3, "alive", ""), (4, 0, "alive", ""), (1, 4, "alive", ""), (1, 3, "dead", ""), (1, 4, "alive", "")]
        taken, queued, rows = self.received(given, [])
        self.assertEqual([given[0], given[2]], taken)
        self.assertEqual([ROWS[2], given[2]], queued)
        self.assertEqual([ROWS[0], given[2], *ROWS[2:]], rows)

    def test_equal_sums(self):
        book = Book(SETTING, ROWS)
        spans = [(low, width) for width in (1, 2, 4, 8) for low in range(0, 8, width)]
        self.assertEqual(([], [], ROWS), self.received([], [own_sum(book, *span) for span in spans]))

    def test_unequal_sums_of_greater_width(self):
        book = Book(SETTING, ROWS)
        for low, width in ((0, 8), (0, 4), (4, 4), (2, 2), (6, 2)):
            told = moments(book, low, width)
            half = [own_sum(book, low, width // 2), own_sum(book, low + width // 2, width // 2)]
            for at in range(3):
                wrong = list(told)
                wrong[at] += 1
                self.assertEqual(([], half, ROWS), self.received([], [(low, width, *wrong)]))

    def test_unequal_sums_of_width_1(self):
        self.assertEqual(([], [ROWS[2]], ROWS), self.received([], [(4, 1, 0, 0, 0)]))
        self.assertEqual(([], [ROWS[2]], ROWS), self.received([], [(4, 1, 99, 99, 99)]))
        self.assertEqual(([], [(5, 1, 0, 0, 0)], ROWS), self.received([], [(5, 1, 3, 3, 3)]))

    def test_sayings_are_treated_ahead_of_sums(self):
        saying = (5, 2, "alive", "")
        self.assertEqual(([saying], [], ROWS[:3] + [saying] + ROWS[3:]), self.received([saying], [(5, 1, 9, 9, 9)]))
        self.assertEqual([saying], self.received([saying], [(5, 1, 0, 0, 0)])[1])

    def test_sums_are_those_of_the_time_when_an_item_is_put_in(self):
        book = Book(SETTING, ROWS)
        before = book.copy()
        side = Side(SETTING, book)
        side.begin(0)
        side.receive([], [(0, 2, 1, 1, 1)])
        side.receive([(0, 9, "alive", ""), (5, 9, "alive", "")], [(0, 2, 1, 1, 1)])
        sums = [own_sum(before, 0, 8)] + [own_sum(before, seat, 1) for seat in (0, 1, 2, 3, 0, 1)]
        sums += [own_sum(book, 0, 1), own_sum(book, 1, 1)]
        self.assertNotEqual(sums[1], sums[7])
        self.assertEqual(sums, [row for _, rows in all_items(side) for row in rows])

    def test_sayings_are_those_of_the_time_when_an_item_is_put_in(self):
        book = Book(SETTING, ROWS)
        side = Side(SETTING, book)
        side.receive([(1, 0, "alive", "")], [])
        side.receive([(1, 9, "alive", "")], [])
        self.assertEqual([([ROWS[1]], [])], all_items(side))

    def test_sums_that_begin_writes_are_compared_by_the_other_side(self):
        one, other = Book(SETTING, ROWS), Book(SETTING, ROWS[:3])
        first, second = Side(SETTING, one), Side(SETTING, other)
        first.begin(0)
        self.assertEqual([], second.receive(*first.next_items()))
        self.assertEqual([([], [own_sum(other, 0, 4), own_sum(other, 4, 4)])], all_items(second))


class Takers(Case):
    def test_none_is_the_method_take_of_the_book(self):
        for side_of in (lambda book: Side(SETTING, book), lambda book: Side(SETTING, book, None)):
            book = Book(SETTING)
            self.assertEqual([ROWS[0]], side_of(book).receive([ROWS[0]], []))
            self.assertEqual([ROWS[0]], book.rows())

    def test_it_is_called_with_later_sayings_alone(self):
        book, calls = Book(SETTING, ROWS), []

        def taker(saying):
            calls.append(saying)
            return book.take(saying)

        given = [(1, 3, "alive", ""), ROWS[2], (4, 0, "alive", ""), (7, 0, "alive", ""), (7, 0, "alive", "")]
        taken = Side(SETTING, book, taker).receive(given, [])
        self.assertEqual([given[0], given[3]], taken)
        self.assertEqual(taken, calls)
        self.assertEqual([given[0], given[3]], [book.of(1), book.of(7)])

    def test_a_taker_that_takes_more_than_it_was_given(self):
        book = Book(SETTING, ROWS)

        def taker(saying):
            book.take(saying)
            book.take((saying[0], saying[1] + 1, "alive", "new"))
            book.take((7, 9, "alive", ""))

        side = Side(SETTING, book, taker)
        given = [(1, 3, "dead", ""), (7, 5, "alive", ""), (1, 4, "alive", "new"), (1, 3, "left", "")]
        # Each one is compared with the book as it is then, but what the taker adds is not put in.
        self.assertEqual([given[0]], side.receive(given[:1], []))
        self.assertIs(True, side.idle)
        self.assertEqual([], side.receive(given[1:], []))
        self.assertEqual([([(7, 9, "alive", ""), (1, 4, "alive", "new")], [])], all_items(side))

    def test_sums_are_compared_behind_what_the_taker_did(self):
        book = Book(SETTING, ROWS)

        def taker(saying):
            book.take(saying)
            book.take((3, 1, "alive", ""))

        side = Side(SETTING, book, taker)
        self.assertEqual([(2, 1, "alive", "")], side.receive([(2, 1, "alive", "")], [(3, 1, 0, 0, 0), (2, 1, 5, 5, 5)]))
        self.assertEqual([([(3, 1, "alive", "")], [])], all_items(side))


def talk(setting, one, other, stripe):
    """A whole exchange by the words of point 31; return (first, second, letters, items)."""
    first, second = one.copy(), other.copy()
    sides = [Side(setting, first), Side(setting, second)]
    sides[0].begin(stripe)
    letters = items = 0
    while True:
        for sender, receiver in ((0, 1), (1, 0)):
            sayings, sums = sides[sender].next_items()
            letters += 1
            items += len(sayings) + len(sums)
            sides[receiver].receive(sayings, sums)
        if sides[0].idle and sides[1].idle:
            return first, second, letters, items


class Whole(Case):
    def test_by_hand(self):
        setting = Setting(2, 1, 2)
        one, other = Book(setting, [(0, 2, "alive", "a")]), Book(setting, [(3, 1, "dead", "")])
        first, second, letters = reconcile(setting, one, other)
        self.assertEqual([[(0, 2, "alive", "a"), (3, 1, "dead", "")], True, 10], [first.rows(), second == first, letters])

    def test_the_letters_by_hand(self):
        setting = Setting(2, 1, 2)
        one, other = Book(setting, [(0, 2, "alive", "a")]), Book(setting, [(3, 1, "dead", "")])
        sides = [Side(setting, one), Side(setting, other)]
        sides[0].begin(0)
        letters = []
        for at in range(10):
            items = sides[at % 2].next_items()
            letters.append(items[0] + items[1])
            sides[1 - at % 2].receive(*items)
        empty = [(seat, 1, 0, 0, 0) for seat in range(4)]
        self.assertEqual([
            [(0, 4, 9, 9, 9), (0, 1, 9, 9, 9)], [(0, 2, 0, 0, 0), (2, 2, 7, 14, 28)],
            [empty[1], (0, 1, 9, 9, 9)], [empty[0], empty[0]],
            [empty[1], empty[2]], [],
            [(0, 2, "alive", "a"), empty[3]], [(3, 1, "dead", "")],
            [(0, 2, "alive", "a")], [],
        ], letters)

    def test_equal_books(self):
        for room in (1, 2, 4, 8, 64):
            setting = Setting(3, 1, room)
            book = Book(setting, ROWS)
            for stripe in range(setting.stripes):
                letters = -(-(1 + len(range(stripe * room, min(8, stripe * room + room)))) // room)
                for other in (book, book.copy()):
                    first, second, told = reconcile(setting, book, other, stripe=stripe)
                    self.assertEqual([ROWS, ROWS, 2 * letters], [first.rows(), second.rows(), told])
                    self.assertIsNot(first, second)
                    self.assertIsNot(first, book)

    def test_empty_books(self):
        setting = Setting(3, 1, 4)
        empty, book = Book(setting), Book(setting, ROWS)
        self.assertEqual(([], [], 4), told_rows(reconcile(setting, empty, empty)))
        for one, other in ((empty, book), (book, empty)):
            first, second, _ = reconcile(setting, one, other)
            self.assertEqual([ROWS, ROWS], [first.rows(), second.rows()])
        self.assertEqual([], empty.rows())

    def test_both_books_stay(self):
        one, other = Book(SETTING, ROWS[:2]), Book(SETTING, ROWS[1:])
        first, second, _ = reconcile(SETTING, one, other)
        self.assertEqual([ROWS[:2], ROWS[1:]], [one.rows(), other.rows()])
        first.take((2, 9, "alive", ""))
        self.assertEqual([ROWS[:2], ROWS[1:], ROWS], [one.rows(), other.rows(), second.rows()])

    def test_stripe_0_is_what_is_taken_if_none_is_told(self):
        one, other = clashing()
        told = told_rows(reconcile(SETTING, one, other, stripe=0))
        self.assertEqual(told, told_rows(reconcile(SETTING, one, other)))
        self.assertNotEqual(told, told_rows(reconcile(SETTING, one, other, stripe=1)))


def told_rows(answer):
    return answer[0].rows(), answer[1].rows(), answer[2]


def clashing():
    """Two books of eight seats that differ in the four seats 0 .. 3 by ranks with equal moments."""
    rows = [[(0, 0, "suspect", "a"), (1, 0, "left", "a"), (2, 1, "dead", "b"), (3, 0, "left", "a")],
            [(0, 0, "alive", "a"), (1, 1, "dead", "b"), (2, 0, "left", "a"), (3, 1, "alive", "b")]]
    return [Book(SETTING, part) for part in rows]


class Facts(Case):
    """Point 31, for books in which rank decides the saying."""

    def drawn(self, draw):
        setting = Setting(draw.randrange(1, 5), 1, draw.choice((1, 2, 3, 5, 64)))
        one = drawn_book(draw, setting)
        if draw.random() < 0.5:
            other = drawn_book(draw, setting)
        else:
            seats = draw.sample(range(setting.seats), min(setting.seats, draw.randrange(5)))
            other = changed(draw, one, seats)
        return setting, one, other

    def differing(self, one, other):
        return sum(one.of(seat) != other.of(seat) for seat in range(one.setting.seats))

    def test_bounds_and_results(self):
        draw = random.Random(31)
        for _ in range(500):
            setting, one, other = self.drawn(draw)
            differing, joined = self.differing(one, other), one | other
            for stripe in range(setting.stripes):
                first, second, letters, items = talk(setting, one, other, stripe)
                told = reconcile(setting, one, other, stripe=stripe)
                self.assertEqual((first.rows(), second.rows(), letters), told_rows(told))
                self.assertLessEqual(items, item_bound(setting, differing))
                self.assertLessEqual(letters, letter_bound(setting, differing))
                self.assertEqual([True] * 4, [first.covers(one), second.covers(other), joined.covers(first), joined.covers(second)])
                low = stripe * setting.room
                for seat in range(low, min(low + setting.room, setting.seats)):
                    self.assertEqual([joined.of(seat)] * 2, [first.of(seat), second.of(seat)])
                if differing <= 3 or one.covers(other) or other.covers(one):
                    self.assertEqual([joined, joined], [first, second])

    def test_all_stripes_one_after_the_other(self):
        draw = random.Random(32)
        for _ in range(200):
            setting, one, other = self.drawn(draw)
            joined, first, second = one | other, one, other
            for stripe in draw.sample(range(setting.stripes), setting.stripes):
                first, second, _ = reconcile(setting, first, second, stripe=stripe)
            self.assertEqual([joined, joined], [first, second])

    def test_books_that_cover_each_other(self):
        draw = random.Random(33)
        for _ in range(200):
            setting, one, other = self.drawn(draw)
            joined = one | other
            for first, second in ((joined, other), (other, joined)):
                told = reconcile(setting, first, second, stripe=draw.randrange(setting.stripes))
                self.assertEqual([joined, joined], list(told[:2]))

    def test_one_to_three_seats(self):
        draw = random.Random(34)
        for many in (1, 2, 3):
            for room in (1, 3, 64):
                setting = Setting(5, 1, room)
                for _ in range(20):
                    one = drawn_book(draw, setting)
                    other = changed(draw, one, draw.sample(range(32), many))
                    first, second, letters = reconcile(setting, one, other)
                    self.assertEqual([one | other] * 2, [first, second])
                    self.assertLessEqual(letters, letter_bound(setting, many))

    def test_books_that_clash_need_their_stripe(self):
        one, other = clashing()
        self.assertEqual(moments(one, 0, 8), moments(other, 0, 8))
        first, second, letters = reconcile(SETTING, one, other, stripe=1)
        self.assertEqual([one, other, 4], [first, second, letters])
        first, second, letters = reconcile(SETTING, one, other, stripe=0)
        self.assertEqual([one | other] * 2, [first, second])

    def test_lives_of_many_digits(self):
        life = 10 ** 59
        one = Book(SETTING, [(seat, life + seat, "alive", "") for seat in range(8)])
        other = Book(SETTING, [(seat, life + 7 - seat, "left", "") for seat in range(8)])
        first, second = one, other
        for stripe in (0, 1):
            first, second, _ = reconcile(SETTING, first, second, stripe=stripe)
        self.assertEqual([one | other] * 2, [first, second])

    def test_a_great_ring(self):
        draw = random.Random(35)
        setting = Setting(8, 1, 64)
        one = Book(setting, [(seat, draw.randrange(9), draw.choice(MARKS), "") for seat in range(256)])
        other = Book(setting, [(seat, draw.randrange(9), draw.choice(MARKS), "") for seat in range(256)])
        first, second, letters = reconcile(setting, one, other, stripe=3)
        self.assertLessEqual(letters, letter_bound(setting, 256))
        for seat in range(192, 256):
            told = max(rank(one.of(seat)), rank(other.of(seat)))
            self.assertEqual([told, told], [rank(first.of(seat)), rank(second.of(seat))])


class Bounds(Case):
    def test_items_and_letters(self):
        self.assertEqual([5, 15, 35], [item_bound(SETTING, differing) for differing in (0, 1, 3)])
        self.assertEqual([12, 32, 72], [letter_bound(SETTING, differing) for differing in (0, 1, 3)])
        self.assertEqual(1 + 64 + 20 * 256, item_bound(Setting(8, 6, 64), 256))
        self.assertEqual(2 * (2 + 1 + 6 * 2), letter_bound(Setting(1, 1, 1), 2))
