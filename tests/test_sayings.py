"""Points 7, 8 and 9: sayings, their order and their written form."""

from livingroll.errors import InvalidSaying
from livingroll.sayings import MARKS, check_saying, format_saying, later, parse_saying, rank
from livingroll.setting import Setting
from tests.helpers import NO_INTEGERS, NO_TEXTS, Case

SETTING = Setting(3, 1, 4)
LONGEST_LIFE = 10 ** 60 - 1


class Checking(Case):
    def test_marks(self):
        self.assertEqual(("alive", "suspect", "dead", "left"), MARKS)

    def test_good_sayings_are_returned(self):
        lives = (0, 1, LONGEST_LIFE)
        worths = ("", "a", "0", "z9", "abcdefghijkl", "mnopqrstuvwx", "yz0123456789")
        for saying in [(seat, life, mark, worth) for seat in (0, 7) for life in lives for mark in MARKS for worth in worths]:
            self.assertIs(saying, check_saying(SETTING, saying))

    def test_seats_off_the_ring(self):
        for bits in (1, 3, 8):
            setting = Setting(bits, 1, 4)
            last = (2 ** bits - 1, 1, "alive", "")
            self.assertIs(last, check_saying(setting, last))
            for seat in (-1, 2 ** bits, 10 ** 70, -(10 ** 70)):
                self.refused((seat, 1, "alive", ""), setting)

    def test_lives_out_of_range(self):
        for life in (-1, 10 ** 60, 10 ** 5000, -(10 ** 60)):
            self.refused((1, life, "alive", ""))

    def test_other_kinds_than_integers(self):
        for value in NO_INTEGERS:
            self.refused((value, 1, "alive", ""))
            self.refused((1, value, "alive", ""))

    def test_wrong_marks(self):
        for mark in ("", "Alive", "alive ", "aliv", "gone", "-", None, 0, 1, True, ["alive"], ("alive",), b"alive", {}):
            self.refused((1, 1, mark, ""))

    def test_wrong_worths(self):
        texts = ("A", "a b", "-", "abcdefghijklm", "a\n", "_", "\u00e4", "\u00df", "\u0663", "\u00b2", " ", "a-", "b" * 5000)
        for worth in (*texts, None, 0, 7, True, b"a", ["a"], ("a",), {}):
            self.refused((1, 1, "alive", worth))

    def test_other_values_than_tuples_of_four(self):
        for value in ((), (1,), (1, 1, "alive"), (1, 1, "alive", "", ""), (None,) * 4):
            self.refused(value)
        for value in (None, [1, 1, "alive", ""], "1 1 alive -", "four", 4, True, {0: 1, 1: 2, 2: 3, 3: 4}):
            self.refused(value)

    def refused(self, value, setting=SETTING):
        with self.subTest(value=str(value)[:40] if not isinstance(value, tuple) else len(value)):
            with self.assertRaises(InvalidSaying) as caught:
                check_saying(setting, value)
            self.assertIs(value, caught.exception.saying)


class Order(Case):
    def test_rank(self):
        self.assertEqual([1, 15, 0], [rank((2, 0, "alive", "")), rank((2, 3, "dead", "ab")), rank(None)])
        self.assertEqual([1, 2, 3, 4, 5, 6, 7, 8], [rank((0, life, mark, "")) for life in (0, 1) for mark in MARKS])
        self.assertEqual(4 * LONGEST_LIFE + 4, rank((7, LONGEST_LIFE, "left", "a")))

    def test_seat_and_worth_do_not_count(self):
        self.assertEqual(rank((0, 5, "dead", "")), rank((7, 5, "dead", "zz")))

    def test_later_of_all_marks_at_equal_lives_and_one_apart(self):
        line = [(3, life, mark, "a") for life in (8, 9, 10) for mark in MARKS]
        for at, one in enumerate(line):
            for place, other in enumerate(line):
                with self.subTest(one=one, other=other):
                    self.assertEqual(line[max(at, place)], later(one, other))

    def test_numbers_are_compared_as_numbers(self):
        one, other = (3, 9, "left", ""), (3, 10, "alive", "")
        self.assertIs(other, later(one, other))
        self.assertIs(other, later(other, one))

    def test_equal_ranks_leave_the_first(self):
        one, other = (3, 2, "dead", "a"), (3, 2, "dead", "b")
        self.assertIs(one, later(one, other))
        self.assertIs(other, later(other, one))

    def test_two_seats_are_refused(self):
        one, other = (3, 2, "dead", "a"), (4, 9, "dead", "a")
        self.assert_refused(InvalidSaying, other, later, one, other)
        self.assert_refused(InvalidSaying, one, later, other, one)
        self.assert_refused(InvalidSaying, (4, 2, "dead", "a"), later, one, (4, 2, "dead", "a"))


class Written(Case):
    def test_format(self):
        self.assertEqual("2 4 alive -", format_saying((2, 4, "alive", "")))
        self.assertEqual("0 0 left a0", format_saying((0, 0, "left", "a0")))
        self.assertEqual("7 10 suspect abcdefghijkl", format_saying((7, 10, "suspect", "abcdefghijkl")))
        self.assertEqual("7 10 dead 0", format_saying((7, 10, "dead", "0")))

    def test_parse(self):
        self.assertEqual((2, 4, "alive", ""), parse_saying(SETTING, "2 4 alive -"))
        self.assertEqual((0, 0, "left", "a0"), parse_saying(SETTING, "0 0 left a0"))
        self.assertEqual((7, 10, "dead", "0"), parse_saying(SETTING, "7 10 dead 0"))

    def test_there_and_back(self):
        for saying in [
            (seat, life, mark, worth)
            for seat in range(8)
            for life in (0, 9, 10, LONGEST_LIFE)
            for mark in MARKS
            for worth in ("", "a", "0", "abcdefghijkl")
        ]:
            again = parse_saying(SETTING, format_saying(saying))
            self.assertEqual(saying, again)
            self.assertEqual([int, int, str, str], [part.__class__ for part in again])

    def test_no_texts(self):
        for value in (*NO_TEXTS, (2, 4, "alive", "")):
            with self.subTest(value=value):
                self.assert_refused(InvalidSaying, value, parse_saying, SETTING, value)

    def test_words_and_spaces(self):
        for text in (
            "", " ", "   ", "2 4 alive", "2 4 alive ", "2 4 alive - ", " 2 4 alive -", "2  4 alive -", "2 4  alive -",
            "2 4 alive  -", "2 4 alive  ", "2 4 alive - -", "2 4 alive a b", "2 4 alive -\n", "\n2 4 alive -", "2 4",
            "2\t4\talive\t-", "2,4,alive,-", "2 4 alive\n-", "24alive-", " 4 alive -", "2  alive -", "2 4  -", "2 alive -",
        ):
            self.refused(text)

    def test_numbers(self):
        wrong = ("02", "00", "+2", "-2", "-0", "2.0", "0x2", "", "a", "\u0662", "\u00b2", "\uff12", "2_0", "None", "-")
        for number in (*wrong, "1" * 5000, "0" * 5000):
            self.refused(f"{number} 4 alive -")
            self.refused(f"2 {number} alive -")

    def test_seats_off_the_ring(self):
        for seat in ("8", "9", "10", "1" * 60, "1" * 61, "1" * 5000):
            self.refused(f"{seat} 4 alive -")
        self.assertEqual((255, 4, "alive", ""), parse_saying(Setting(8, 1, 4), "255 4 alive -"))

    def test_lives_of_many_digits(self):
        self.assertEqual((2, LONGEST_LIFE, "alive", ""), parse_saying(SETTING, f"2 {'9' * 60} alive -"))
        for digits in (61, 62, 4300, 4301, 9999):
            self.refused(f"2 {'1' * digits} alive -")

    def test_marks_and_worths(self):
        for mark in ("Alive", "aliv", "alives", "-", "gone", "0"):
            self.refused(f"2 4 {mark} -")
        for worth in ("--", "A", "abcdefghijklm", "a-", "-a", "_", "\u00e4", "a" * 5000, "\u00b2"):
            self.refused(f"2 4 alive {worth}")

    def refused(self, text):
        with self.subTest(text=text[:60]):
            self.assert_refused(InvalidSaying, text, parse_saying, SETTING, text)
