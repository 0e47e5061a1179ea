"""Point 29: sums over ranges, and books that they cannot tell apart."""

import itertools
import random

from livingroll.book import Book
from livingroll.ranges import clash, moments
from livingroll.sayings import MARKS, rank
from livingroll.setting import Setting
from tests.helpers import Case

SETTING = Setting(3, 1, 4)
LIFE = 10 ** 60 - 1


def ranked(ranks, low=0, setting=SETTING):
    """A book that holds sayings of these ranks from the seat low on; 0 stands for none."""
    rows = [(low + at, (number - 1) // 4, MARKS[(number - 1) % 4], "") for at, number in enumerate(ranks) if number]
    return Book(setting, rows)


def told_moments(book, low, width):
    pairs = [(rank(book.of(low + n - 1)), n) for n in range(1, width + 1)]
    return tuple(sum(r * n ** power for r, n in pairs) for power in range(3))


def drawn_book(draw, setting, chance=0.6, most=3):
    """A book in which rank decides the saying."""
    return Book(setting, [(seat, life := draw.randrange(most), draw.choice(MARKS), "abc"[life])
                          for seat in range(setting.seats) if draw.random() < chance])


def changed(draw, book, seats):
    """The book with other sayings about these seats."""
    rows = {row[0]: row for row in book.rows()}
    for seat in seats:
        others = [(seat, life, mark, "abc"[life]) for life in range(3) for mark in MARKS] + [None]
        others.remove(rows.get(seat))
        rows[seat] = draw.choice(others)
    return Book(book.setting, [row for row in rows.values() if row])


class Moments(Case):
    def test_by_hand(self):
        book = Book(SETTING, [(0, 0, "alive", ""), (2, 1, "suspect", "x"), (7, 2, "left", "")])
        self.assertEqual((1 + 6 + 12, 1 + 18 + 96, 1 + 54 + 768), moments(book, 0, 8))
        self.assertEqual((6, 6, 6), moments(book, 2, 1))
        self.assertEqual((6, 12, 24), moments(book, 1, 2))
        self.assertEqual((18, 6 * 1 + 12 * 6, 6 + 12 * 36), moments(book, 2, 6))

    def test_nothing_is_held(self):
        for low, width in ((0, 8), (4, 4), (7, 1), (3, 5)):
            self.assertEqual((0, 0, 0), moments(Book(SETTING), low, width))
        self.assertEqual((0, 0, 0), moments(Book(SETTING, [(3, 5, "dead", "")]), 4, 4))

    def test_a_worth_does_not_count(self):
        one, other = Book(SETTING, [(3, 5, "dead", "")]), Book(SETTING, [(3, 5, "dead", "zz")])
        self.assertEqual(moments(one, 0, 8), moments(other, 0, 8))

    def test_lives_of_60_digits(self):
        setting = Setting(8, 1, 4)
        book = Book(setting, [(seat, LIFE, "left", "") for seat in range(256)])
        numbers = range(1, 257)
        told = tuple((4 * LIFE + 4) * total for total in (256, sum(numbers), sum(n * n for n in numbers)))
        self.assertEqual(told, moments(book, 0, 256))
        self.assertLess(len(str(told[2])), 80)
        self.assertEqual((4 * LIFE + 4,) * 3, moments(book, 255, 1))

    def test_each_range(self):
        draw = random.Random(29)
        for bits in range(1, 6):
            setting = Setting(bits, 1, 4)
            book = drawn_book(draw, setting)
            for low in range(setting.seats):
                for width in range(1, setting.seats - low + 1):
                    told = moments(book, low, width)
                    self.assertIs(tuple, told.__class__)
                    self.assertEqual(told_moments(book, low, width), told)

    def test_the_book_stays(self):
        book = ranked([1, 2, 0, 4])
        before = book.rows()
        moments(book, 0, 8)
        clash(book, ranked([1]))
        self.assertEqual(before, book.rows())


class Clashes(Case):
    def test_equal_books(self):
        draw = random.Random(30)
        for _ in range(20):
            book = drawn_book(draw, SETTING)
            self.assertIs(False, clash(book, book))
            self.assertIs(False, clash(book, book.copy()))
        self.assertIs(False, clash(Book(SETTING), Book(SETTING)))

    def test_books_that_differ_in_a_worth_alone(self):
        for seat in range(8):
            rows = [(other, 2, "alive", "") for other in range(8)]
            other = list(rows)
            other[seat] = (seat, 2, "alive", "a")
            self.assertIs(True, clash(Book(SETTING, rows), Book(SETTING, other)))

    def test_a_worth_and_a_rank_apart(self):
        # The whole ring has other moments, but seat 3 alone has the same.
        one = Book(SETTING, [(3, 2, "alive", ""), (5, 1, "alive", "")])
        other = Book(SETTING, [(3, 2, "alive", "a"), (5, 2, "alive", "")])
        self.assertIs(True, clash(one, other))
        self.assertIs(True, clash(other, one))

    def test_up_to_three_seats(self):
        draw = random.Random(31)
        for many in (1, 2, 3):
            for seats in itertools.combinations(range(8), many):
                for _ in range(3):
                    one = drawn_book(draw, SETTING)
                    other = changed(draw, one, seats)
                    self.assertEqual(many, sum(one.of(seat) != other.of(seat) for seat in range(8)))
                    self.assertIs(False, clash(one, other))

    def test_four_seats_with_equal_moments(self):
        # The differences 1, -3, 3, -1 at four neighbours add up to 0, and so do those weighed by n and n * n.
        for low in range(5):
            one, other = ranked([2, 4, 7, 4], low), ranked([1, 7, 4, 5], low)
            self.assertEqual(moments(one, 0, 8), moments(other, 0, 8))
            self.assertIs(True, clash(one, other))
            self.assertIs(True, clash(other, one))

    def test_four_seats_of_a_half_with_further_ones_apart(self):
        # The half 4 .. 7 clashes, though the whole ring does not.
        one, other = ranked([2, 4, 7, 4], 4) | ranked([5]), ranked([1, 7, 4, 5], 4)
        self.assertNotEqual(moments(one, 0, 8), moments(other, 0, 8))
        self.assertEqual(moments(one, 4, 4), moments(other, 4, 4))
        self.assertIs(True, clash(one, other))

    def test_equal_moments_outside_of_the_halving_tree(self):
        # The range 2 .. 5 is none of the tree, and no range of the tree has equal moments.
        one, other = ranked([2, 4, 7, 4], 2) | ranked([1]), ranked([1, 7, 4, 5], 2)
        self.assertEqual(moments(one, 2, 4), moments(other, 2, 4))
        self.assertIs(False, clash(one, other))

    def test_one_seat_held_by_one_book_alone(self):
        self.assertIs(False, clash(ranked([0, 5]), Book(SETTING)))
        self.assertIs(False, clash(Book(SETTING), ranked([0, 5])))

    def test_a_book_that_covers_the_other(self):
        draw = random.Random(32)
        for _ in range(200):
            one, other = drawn_book(draw, SETTING), drawn_book(draw, SETTING)
            self.assertIs(False, clash(one | other, one))
            self.assertIs(False, clash(one, one | other))

    def test_against_the_words(self):
        draw = random.Random(33)
        found = {True: 0, False: 0}
        for _ in range(600):
            setting = Setting(draw.choice((2, 3)), 1, 4)
            # Here the rank does not decide the worth, so that some of the books clash.
            one, other = [Book(setting, [(seat, 1, draw.choice(MARKS), draw.choice(("", "", "", "a")))
                                         for seat in range(setting.seats)]) for _ in range(2)]
            ranges = [(low, 2 ** power) for power in range(setting.bits + 1) for low in range(0, setting.seats, 2 ** power)]
            told = any(
                [one.of(seat) for seat in range(low, low + width)] != [other.of(seat) for seat in range(low, low + width)]
                and told_moments(one, low, width) == told_moments(other, low, width)
                for low, width in ranges
            )
            self.assertIs(told, clash(one, other))
            found[told] += 1
        self.assertGreater(min(found.values()), 5)

    def test_settings_of_the_same_bits(self):
        one, other = ranked([2, 4, 7, 4]), ranked([1, 7, 4, 5], setting=Setting(3, 6, 64))
        self.assertIs(True, clash(one, other))
