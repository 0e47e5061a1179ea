"""Points 15 and 16: books and how they join."""

import itertools
import random

from livingroll.book import Book
from livingroll.errors import InvalidSaying
from livingroll.sayings import MARKS, rank
from livingroll.setting import Setting
from tests.helpers import NO_TEXTS, Case

SETTING = Setting(3, 1, 4)
ROWS = [(0, 2, "alive", "a"), (1, 1, "suspect", ""), (4, 3, "dead", "b"), (6, 9, "left", ""), (7, 10, "alive", "zz")]


class Taking(Case):
    def test_a_new_book_is_empty(self):
        book = Book(SETTING)
        self.assertEqual([], book.rows())
        self.assertEqual(0, len(book))

    def test_a_seat_that_is_new(self):
        book = Book(SETTING)
        self.assertIs(True, book.take((3, 0, "alive", "")))
        self.assertEqual([(3, 0, "alive", "")], book.rows())

    def test_greater_equal_and_lesser_ranks(self):
        line = [(3, life, mark, "") for life in (8, 9, 10) for mark in MARKS]
        for at, held in enumerate(line):
            for place, given in enumerate(line):
                book = Book(SETTING, [held])
                with self.subTest(held=held, given=given):
                    self.assertIs(place > at, book.take(given))
                    self.assertEqual([line[max(at, place)]], book.rows())

    def test_an_equal_rank_with_another_worth(self):
        book = Book(SETTING, [(3, 2, "alive", "a")])
        self.assertIs(False, book.take((3, 2, "alive", "b")))
        self.assertEqual((3, 2, "alive", "a"), book.of(3))

    def test_other_seats_stay(self):
        book = Book(SETTING, ROWS)
        self.assertIs(True, book.take((4, 3, "left", "c")))
        self.assertEqual([*ROWS[:2], (4, 3, "left", "c"), *ROWS[3:]], book.rows())

    def test_values_that_are_no_saying(self):
        book = Book(SETTING, ROWS)
        for value in (None, "0 9 alive -", [0, 9, "alive", ""], (0, 9, "alive"), (8, 9, "alive", ""), (-1, 9, "alive", ""),
                      (0, 10 ** 60, "alive", ""), (0, 9, "gone", ""), (0, 9, "alive", "A"), (True, 9, "alive", ""),
                      (0, True, "alive", ""), (0, 9, "alive", None), ()):
            with self.subTest(value=value):
                self.assert_refused(InvalidSaying, value, book.take, value)
                self.assert_refused(InvalidSaying, value, Book, SETTING, [value])
                self.assert_refused(InvalidSaying, value, Book, SETTING, (*ROWS, value))
                self.assertEqual(ROWS, book.rows())

    def test_a_wrong_saying_that_is_not_later(self):
        book = Book(SETTING, [(0, 5, "alive", "")])
        self.assert_refused(InvalidSaying, (0, 1, "alive", "A"), book.take, (0, 1, "alive", "A"))

    def test_sayings_are_taken_in_order(self):
        sayings = [(3, 2, "alive", "a"), (3, 2, "alive", "b"), (3, 1, "left", ""), (5, 0, "alive", ""), (3, 2, "dead", "c")]
        self.assertEqual([(3, 2, "alive", "a")], Book(SETTING, sayings[:3]).rows())
        self.assertEqual([(3, 2, "dead", "c"), (5, 0, "alive", "")], Book(SETTING, sayings).rows())
        self.assertEqual(Book(SETTING, sayings), Book(SETTING, tuple(sayings)))

    def test_the_list_that_is_passed_stays_and_is_copied(self):
        sayings = list(reversed(ROWS))
        book = Book(SETTING, sayings)
        book.take((2, 1, "alive", ""))
        self.assertEqual(list(reversed(ROWS)), sayings)
        sayings.clear()
        self.assertEqual(6, len(book))


class Looking(Case):
    def test_of(self):
        book = Book(SETTING, ROWS)
        held = {row[0]: row for row in ROWS}
        self.assertEqual([held.get(seat) for seat in range(8)], [book.of(seat) for seat in range(8)])
        self.assertIsNone(book.of(2))

    def test_in_and_len(self):
        book = Book(SETTING, ROWS)
        self.assertEqual([0, 1, 4, 6, 7], [seat for seat in range(-1, 10) if seat in book])
        self.assertEqual([0, 1, 5], [len(Book(SETTING, ROWS[:many])) for many in (0, 1, 5)])

    def test_rows_and_held_ascend(self):
        for order in itertools.permutations(ROWS):
            book = Book(SETTING, order)
            self.assertEqual(ROWS, book.rows())
            self.assertEqual([0, 1, 4, 6, 7], book.held())

    def test_marked(self):
        book = Book(SETTING, ROWS[::-1])
        self.assertEqual([0, 1, 4, 6, 7], book.marked())
        self.assertEqual([[0, 7], [1], [4], [6]], [book.marked(mark) for mark in MARKS])
        self.assertEqual([0, 1, 7], book.marked("alive", "suspect"))
        self.assertEqual([0, 1, 7], book.marked("suspect", "alive"))
        self.assertEqual([1, 4, 6], book.marked("left", "dead", "suspect"))
        self.assertEqual([0, 1, 4, 6, 7], book.marked(*MARKS))
        self.assertEqual([], Book(SETTING, ROWS[:1]).marked("dead"))
        self.assertEqual([], Book(SETTING).marked())

    def test_lists_that_are_returned_are_new(self):
        book = Book(SETTING, ROWS)
        for look in (book.rows, book.held, book.marked, lambda: book.marked("alive"), lambda: book.ahead_of(Book(SETTING))):
            before = look()
            look().clear()
            look().append("more")
            self.assertEqual(before, look())
        self.assertEqual(ROWS, book.rows())


class Comparing(Case):
    def test_covers(self):
        book = Book(SETTING, ROWS)
        self.assertIs(True, book.covers(book))
        self.assertIs(True, book.covers(Book(SETTING)))
        self.assertIs(False, Book(SETTING).covers(book))
        self.assertIs(True, Book(SETTING).covers(Book(SETTING)))
        for row in ROWS:
            self.assertIs(True, book.covers(Book(SETTING, [row])))
            self.assertIs(False, Book(SETTING, [row]).covers(book))
        self.assertIs(False, book.covers(Book(SETTING, [(2, 0, "alive", "")])))

    def test_covers_by_rank(self):
        one = Book(SETTING, [(0, 2, "dead", ""), (1, 2, "alive", "")])
        for row, covered in (((0, 2, "suspect", ""), True), ((0, 2, "dead", "x"), True), ((0, 2, "left", ""), False),
                             ((1, 1, "left", ""), True), ((1, 2, "suspect", ""), False), ((1, 3, "alive", ""), False)):
            with self.subTest(row=row):
                self.assertIs(covered, one.covers(Book(SETTING, [row])))

    def test_ahead_of(self):
        one = Book(SETTING, [(1, 2, "alive", "a"), (0, 2, "dead", ""), (3, 1, "alive", ""), (5, 0, "left", "")])
        other = Book(SETTING, [(0, 2, "alive", ""), (1, 2, "alive", "b"), (3, 2, "alive", ""), (7, 0, "alive", "")])
        self.assertEqual([(0, 2, "dead", ""), (5, 0, "left", "")], one.ahead_of(other))
        self.assertEqual([(3, 2, "alive", ""), (7, 0, "alive", "")], other.ahead_of(one))
        self.assertEqual([], one.ahead_of(one))
        self.assertEqual(one.rows(), one.ahead_of(Book(SETTING)))
        self.assertEqual([], Book(SETTING).ahead_of(one))

    def test_equal_books(self):
        book = Book(SETTING, ROWS)
        self.assertTrue(book == Book(SETTING, list(reversed(ROWS))))
        self.assertTrue(book == Book(Setting(8, 6, 64, grace=1, helpers=0), ROWS))
        self.assertTrue(Book(SETTING) == Book(Setting(1, 1, 1)))
        self.assertFalse(book != Book(SETTING, ROWS))
        self.assertFalse(book == Book(SETTING, ROWS[1:]))
        self.assertFalse(Book(SETTING, ROWS[1:]) == book)
        self.assertTrue(book != Book(SETTING))

    def test_books_that_differ_in_one_part_of_a_row(self):
        book = Book(SETTING, [(1, 1, "dead", "a")])
        for row in ((2, 1, "dead", "a"), (1, 2, "dead", "a"), (1, 1, "left", "a"), (1, 1, "dead", "b")):
            self.assertFalse(book == Book(SETTING, [row]))
            self.assertTrue(book != Book(SETTING, [row]))

    def test_values_that_are_no_book(self):
        for value in (None, 0, "", [], ROWS, tuple(ROWS), {}, {row[0]: row for row in ROWS}, SETTING):
            self.assertIs(False, Book(SETTING, ROWS) == value)
            self.assertIs(False, Book(SETTING) == value)
            self.assertIs(True, Book(SETTING) != value)
            self.assertIs(False, value == Book(SETTING))

    def test_comparing_changes_nothing(self):
        one, other = Book(SETTING, ROWS[:3]), Book(SETTING, ROWS[2:])
        one.covers(other), one.ahead_of(other), one == other, one | other, one.copy(), one.text()
        self.assertEqual([ROWS[:3], ROWS[2:]], [one.rows(), other.rows()])


class Joining(Case):
    def test_what_only_one_holds_and_the_later_of_both(self):
        one = Book(SETTING, [(0, 2, "alive", "a"), (1, 1, "suspect", ""), (2, 5, "left", "")])
        other = Book(SETTING, [(1, 1, "dead", ""), (0, 1, "left", ""), (7, 0, "alive", "")])
        joined = [(0, 2, "alive", "a"), (1, 1, "dead", ""), (2, 5, "left", ""), (7, 0, "alive", "")]
        self.assertEqual(joined, (one | other).rows())
        self.assertEqual(joined, (other | one).rows())

    def test_equal_ranks_leave_the_left_one(self):
        one, other = Book(SETTING, [(1, 1, "dead", "a")]), Book(SETTING, [(1, 1, "dead", "b")])
        self.assertEqual([(1, 1, "dead", "a")], (one | other).rows())
        self.assertEqual([(1, 1, "dead", "b")], (other | one).rows())

    def test_settings_of_the_same_bits(self):
        joined = Book(SETTING, ROWS[:2]) | Book(Setting(3, 6, 64, grace=1), ROWS[2:])
        self.assertEqual(ROWS, joined.rows())
        self.assertIs(True, joined.take((2, 0, "alive", "")))

    def test_empty_books(self):
        book = Book(SETTING, ROWS)
        self.assertEqual(book, book | Book(SETTING))
        self.assertEqual(book, Book(SETTING) | book)
        self.assertEqual([], (Book(SETTING) | Book(SETTING)).rows())

    def test_copies_and_joins_are_books_of_their_own(self):
        for made in (lambda one: one.copy(), lambda one: one | one, lambda one: one | Book(SETTING),
                     lambda one: Book(SETTING) | one):
            book = Book(SETTING, ROWS)
            other = made(book)
            self.assertIsInstance(other, Book)
            self.assertIsNot(book, other)
            self.assertEqual(book, other)
            self.assertIs(True, other.take((2, 1, "alive", "")))
            self.assertEqual(ROWS, book.rows())
            self.assertIs(True, book.take((0, 3, "alive", "")))
            self.assertEqual((0, 2, "alive", "a"), other.of(0))

    def test_a_copy_knows_its_ring(self):
        copied = Book(SETTING, ROWS).copy()
        self.assert_refused(InvalidSaying, (8, 1, "alive", ""), copied.take, (8, 1, "alive", ""))


class Text(Case):
    def test_written_form(self):
        text = "0 2 alive a\n1 1 suspect -\n4 3 dead b\n6 9 left -\n7 10 alive zz\n"
        self.assertEqual(text, Book(SETTING, ROWS[::-1]).text())
        self.assertEqual("", Book(SETTING).text())

    def test_there_and_back(self):
        for many in range(len(ROWS) + 1):
            book = Book(SETTING, ROWS[:many])
            again = Book.of_text(SETTING, book.text())
            self.assertIsInstance(again, Book)
            self.assertEqual(ROWS[:many], again.rows())
            self.assertEqual(book.text(), again.text())

    def test_what_was_read_goes_on(self):
        book = Book.of_text(SETTING, "0 2 alive a\n")
        self.assertIs(True, book.take((0, 2, "dead", "a")))
        self.assert_refused(InvalidSaying, (8, 1, "alive", ""), book.take, (8, 1, "alive", ""))

    def test_values_that_are_no_string(self):
        for value in (*NO_TEXTS, b"", b"0 2 alive a\n", ["0 2 alive a\n"], Book(SETTING)):
            self.refused(value, value)

    def test_texts_without_a_newline_at_the_end(self):
        for text in ("0 2 alive a", "0 2 alive a\n1 1 dead -", " ", "x", "\n ", "wrong\n1 1 dead -", "0 2 alive a\n "):
            self.refused(text, text)

    def test_the_first_wrong_line_is_told(self):
        for text, line in (
            ("\n", ""),
            ("\n0 2 alive a\n", ""),
            ("0 2 alive a\n\n", ""),
            ("0 2 alive a\n\n1 1 dead -\n", ""),
            ("0 2 alive a\nwrong\nworse\n", "wrong"),
            ("wrong\n0 2 alive a\n", "wrong"),
            ("0 2 alive a\n1 1 dead - \n", "1 1 dead - "),
            ("0 2 alive a\n8 1 dead -\n", "8 1 dead -"),
            ("0 2 alive a\n01 1 dead -\n", "01 1 dead -"),
            ("0 2 alive a\r\n", "0 2 alive a\r"),
            ("0 2 alive a\x0b1 1 dead -\n", "0 2 alive a\x0b1 1 dead -"),
        ):
            self.refused(text, line)

    def test_rows_that_do_not_ascend(self):
        for text, line in (
            ("1 2 alive a\n0 1 dead -\n", "0 1 dead -"),
            ("1 2 alive a\n1 2 alive a\n", "1 2 alive a"),
            ("1 2 alive a\n1 3 alive a\n", "1 3 alive a"),
            ("0 2 alive a\n4 1 dead -\n3 1 dead -\nwrong\n", "3 1 dead -"),
            ("0 2 alive a\n4 1 dead -\nwrong\n3 1 dead -\n", "wrong"),
            ("2 2 alive a\n4 1 dead -\n3 1 dead -\n", "3 1 dead -"),
            ("1 2 alive a\n0 1 dead -\n2 1 dead -\n", "0 1 dead -"),
        ):
            self.refused(text, line)

    def refused(self, text, told):
        with self.subTest(text=text):
            self.assert_refused(InvalidSaying, told, Book.of_text, SETTING, text)


class Facts(Case):
    """Point 16, for sayings in which seat and life decide the worth."""

    def drawn_sayings(self, draw, most):
        sayings = []
        for _ in range(draw.randrange(most)):
            seat, life = draw.randrange(4), draw.randrange(4)
            sayings.append((seat, life, draw.choice(MARKS), "abcdefgh"[seat + life]))
        return sayings

    def test_joining_is_commutative_associative_and_idempotent(self):
        draw = random.Random(16)
        for _ in range(300):
            one, two, three = [Book(SETTING, self.drawn_sayings(draw, 9)) for _ in range(3)]
            self.assertEqual(one | two, two | one)
            self.assertEqual((one | two) | three, one | (two | three))
            self.assertEqual(one, one | one)
            self.assertEqual(one | two, (one | two) | two)

    def test_a_join_is_the_least_book_that_covers_both(self):
        draw = random.Random(17)
        for _ in range(300):
            one, two, three = [Book(SETTING, self.drawn_sayings(draw, 9)) for _ in range(3)]
            joined = one | two
            self.assertTrue(joined.covers(one) and joined.covers(two))
            self.assertEqual(three.covers(one) and three.covers(two), three.covers(joined))
            self.assertTrue((joined | three).covers(joined))
            self.assertEqual(one.covers(two), one | two == one)

    def test_covering_and_being_ahead(self):
        draw = random.Random(18)
        for _ in range(300):
            one, two = [Book(SETTING, self.drawn_sayings(draw, 9)) for _ in range(2)]
            self.assertEqual(one.covers(two), two.ahead_of(one) == [])
            later = Book(SETTING, one.ahead_of(two))
            self.assertEqual(one | two, two | later)

    def test_sayings_in_any_order_any_number_of_times(self):
        draw = random.Random(19)
        for _ in range(200):
            sayings = self.drawn_sayings(draw, 9)
            book = Book(SETTING, sayings)
            again = sayings + [draw.choice(sayings) for _ in range(5) if sayings]
            draw.shuffle(again)
            other = Book(SETTING)
            for saying in again:
                other.take(saying)
            self.assertEqual(book, other)
            self.assertEqual(book, Book(SETTING, again))

    def test_the_rank_about_a_seat_never_falls(self):
        draw = random.Random(20)
        for _ in range(100):
            book = Book(SETTING)
            for saying in self.drawn_sayings(draw, 20):
                before = {seat: rank(book.of(seat)) for seat in range(8)}
                taken = book.take(saying)
                after = {seat: rank(book.of(seat)) for seat in range(8)}
                grown = [seat for seat in range(8) if after[seat] > before[seat]]
                self.assertEqual([saying[0]] if taken else [], grown)
                self.assertTrue(all(after[seat] >= before[seat] for seat in range(8)))
