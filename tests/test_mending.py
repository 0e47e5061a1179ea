"""Points 32 and 34: the texts on a disk, and how they are mended."""

import random
import re

from livingroll.book import Book
from livingroll.errors import NoBook
from livingroll.mending import disk_line, mend_area, mended, restore
from livingroll.sayings import MARKS, format_saying
from livingroll.setting import Setting
from tests.helpers import Case

SETTING = Setting(3, 1, 4)
ROWS = [(0, 2, "alive", "a"), (1, 1, "suspect", ""), (4, 3, "dead", "b")]
LOG = [(1, 1, "dead", ""), (7, 10 ** 59, "alive", "zz9")]


def lines_of(*bodies):
    return "".join(disk_line(body) for body in bodies)


def area(generation, rows, log=()):
    """An area by the words of point 32."""
    bodies = [f"area {generation}", *map(format_saying, rows), f"end {len(rows)}", *map(format_saying, log)]
    return lines_of(*bodies)


def is_area(text):
    """Tell by patterns whether a text is an area of SETTING."""
    if not text.endswith("\n"):
        return False
    bodies = []
    for line in text[:-1].split("\n"):
        body, check = line[:-5], line[-5:]
        if len(line) < 5 or check != f" {sum((i + 1) * ord(c) for i, c in enumerate(body)) % 9973:04}":
            return False
        bodies.append(body)
    if not re.fullmatch("area (0|[1-9][0-9]{0,8})", bodies[0]):
        return False
    saying = re.compile("[0-7] (0|[1-9][0-9]{0,59}) (alive|suspect|dead|left) (-|[a-z0-9]{1,12})")
    ends = [at for at, body in enumerate(bodies) if at and not saying.fullmatch(body)]
    return len(ends) == 1 and bodies[ends[0]] == f"end {ends[0] - 1}"


def longest(text):
    ends = [at + 1 for at, sign in enumerate(text) if sign == "\n"]
    return max((text[:end] for end in ends if is_area(text[:end])), key=len, default="")


class Lines(Case):
    def test_by_hand(self):
        self.assertEqual("end 0 0989\n", disk_line("end 0"))
        self.assertEqual("a 0097\n", disk_line("a"))
        self.assertEqual(" 0000\n", disk_line(""))
        self.assertEqual("ba 0292\n", disk_line("ba"))

    def test_several_bodies(self):
        for body in ("area 0", "end 12", "0 2 alive a", "7 " + "9" * 60 + " suspect abcdefghijkl", "~" * 200, " "):
            check = sum((at + 1) * ord(sign) for at, sign in enumerate(body)) % 9973
            self.assertEqual(f"{body} {check:04}\n", disk_line(body))

    def test_checks_with_leading_zeros_and_of_each_length(self):
        lengths = {}
        for many in range(1, 300):
            line = disk_line("7" * many)
            self.assertRegex(line, r"\A7+ [0-9]{4}\n\Z")
            lengths[len(str(int(line[-5:])))] = True
        self.assertEqual({2, 3, 4}, set(lengths))


class Areas(Case):
    def assert_mended(self, told, text):
        with self.subTest(text=text):
            self.assertEqual(told, mend_area(SETTING, text))
            self.assertEqual(told, mend_area(SETTING, told))

    def test_whole_areas(self):
        for generation in (0, 1, 9, 10, 999999999):
            for rows in ([], ROWS[:1], ROWS, ROWS[::-1], ROWS + ROWS, [ROWS[0]] * 3):
                for log in ([], LOG[:1], LOG, LOG[::-1], LOG + LOG):
                    text = area(generation, rows, log)
                    self.assertIs(True, is_area(text))
                    self.assert_mended(text, text)

    def test_each_prefix(self):
        for rows, log in (([], []), (ROWS, []), (ROWS[:2], LOG[::-1])):
            text = area(7, rows, log)
            whole = len(area(7, rows))
            ends = [at + 1 for at, sign in enumerate(text) if sign == "\n" and at + 1 >= whole]
            for at in range(len(text) + 1):
                told = max((end for end in ends if end <= at), default=0)
                self.assert_mended(text[:told], text[:at])

    def test_empty_texts_and_texts_without_a_newline_at_the_end(self):
        text = area(0, ROWS, LOG)
        for wrong in ("", "\n", "\n\n", "x", "area 0", "area", text[:-1].split("\n")[0], "\n" + text, " " + text, text[1:]):
            self.assert_mended("", wrong)
        self.assert_mended(area(0, ROWS, LOG[:1]), text[:-1])
        self.assert_mended("", area(0, ROWS)[:-1])
        self.assert_mended(text, text + "\n")
        self.assert_mended(text, text + "\n" + disk_line("0 2 dead a"))

    def test_wrong_checks(self):
        text = area(3, ROWS, LOG)
        whole = len(area(3, ROWS))
        for at in range(len(text)):
            for sign in ("~", "0", "5", " ", "\n"):
                wrong = text[:at] + sign + text[at + 1:]
                if wrong != text:
                    self.assertEqual(longest(wrong), mend_area(SETTING, wrong), (at, sign))
                    if at < whole:
                        self.assertEqual("", mend_area(SETTING, wrong), (at, sign))

    def test_checks_of_another_form(self):
        for line in ("area 0 989\n", "area 0 00989\n", "area 0  0989\n", "area 00989\n", "area 0\t0989\n"):
            self.assert_mended("", line + lines_of("end 0"))
        good = disk_line("end 0")
        self.assertEqual("end 0 0989\n", good)
        for line in ("end 0 989\n", "end 0  989\n", "end 0 0989 \n", "end 0 \u0660989\n", "end 0 0989\r\n", "end 00989\n"):
            self.assert_mended("", disk_line("area 0") + line)

    def test_wrong_counts(self):
        sayings = [format_saying(row) for row in ROWS]
        for count in ("0", "2", "4", "03", "+3", "-3", "3 ", "", "three", "3 3", "0000000003", "1000000003"):
            self.assert_mended("", lines_of("area 0", *sayings, f"end {count}"))
            self.assert_mended("", lines_of("area 0", *sayings, f"end {count}", sayings[0], "end 4"))
        self.assert_mended("", lines_of("area 0", *sayings, "end"))
        self.assert_mended("", lines_of("area 0", *sayings, "End 3"))
        self.assert_mended("", lines_of("area 0", *sayings))
        self.assert_mended(lines_of("area 0", *sayings, "end 3"), lines_of("area 0", *sayings, "end 3", "end 3"))

    def test_wrong_generations(self):
        good = lines_of("area 999999999", "end 0")
        self.assert_mended(good, good)
        for number in ("1000000000", "00", "01", "007", "0000000001", "-1", "+1", "", "x", "1.0", " 1", "1 ", "1 1", "\u0661"):
            self.assert_mended("", lines_of(f"area {number}", "end 0"))
        for head in ("Area 0", "area", "areas 0", "0 area", "0 2 alive a", "end 0", ""):
            self.assert_mended("", lines_of(head, "end 0"))

    def test_lines_that_are_no_saying(self):
        wrong = ("8 1 alive -", "0 01 alive -", "0 1 gone -", "0 1 alive", "0 1 alive ", " 0 1 alive -", "0 1 alive A", "",
                 "0 1 alive abcdefghijklm", f"0 1{'0' * 60} alive -", "area 1", "x", "0  1 alive -", "= 0 1 alive -")
        for body in wrong:
            with_wrong = lines_of("area 0", "0 2 alive a", body, "1 1 dead -", "end 3")
            self.assert_mended("", with_wrong)
            self.assert_mended("", lines_of("area 0", "0 2 alive a", body, "end 1"))
            kept = lines_of("area 0", "0 2 alive a", "end 1", "1 1 dead -")
            self.assert_mended(kept, kept + lines_of(body, "1 2 dead -"))

    def test_two_areas_in_one_text(self):
        self.assert_mended(area(0, ROWS), area(0, ROWS) + area(1, ROWS, LOG))

    def test_damaged_texts_against_the_words(self):
        draw = random.Random(34)
        for _ in range(400):
            rows = [(draw.randrange(8), draw.randrange(20), draw.choice(MARKS), "") for _ in range(draw.randrange(5))]
            many = draw.randrange(len(rows) + 1)
            lines = area(draw.randrange(12), rows[:many], rows[many:]).split("\n")
            if draw.random() < 0.5:
                lines.insert(draw.randrange(len(lines)), draw.choice(lines))
            if draw.random() < 0.5:
                del lines[draw.randrange(len(lines))]
            text = "\n".join(lines)
            told = longest(text)
            self.assertTrue(text.startswith(told))
            self.assertEqual(told, mend_area(SETTING, text))

    def test_lines_appended_behind_a_mended_area_make_an_area(self):
        text = area(4, ROWS, LOG)
        for at in range(len(text) + 1):
            kept = mend_area(SETTING, text[:at])
            if kept:
                longer = kept + lines_of("3 0 alive -", "3 0 alive -", "0 1 left a")
                self.assertEqual(longer, mend_area(SETTING, longer))


class Restoring(Case):
    def test_mended_areas(self):
        one, other = area(4, ROWS, LOG), area(5, ROWS[:1])
        self.assertEqual((one, other), mended(SETTING, (one, other)))
        self.assertEqual((area(4, ROWS, LOG[:1]), ""), mended(SETTING, (one[:-3], other[:-1])))
        self.assertEqual(("", other), mended(SETTING, ("", other + "x")))
        self.assertEqual(("", ""), mended(SETTING, ("", "")))
        for at in range(len(one)):
            once = mended(SETTING, (one[:at], other[:at]))
            self.assertIs(tuple, once.__class__)
            self.assertEqual(once, mended(SETTING, once))

    def assert_restored(self, rows, generation, index, areas):
        book, *told = restore(SETTING, areas)
        self.assertIsInstance(book, Book)
        self.assertEqual([Book(SETTING, rows).rows(), generation, index], [book.rows(), *told])
        self.assertIs(tuple, restore(SETTING, areas).__class__)

    def test_unequal_generations(self):
        one, other = area(9, ROWS, LOG), area(10, ROWS[:1])
        self.assert_restored(ROWS[:1], 10, 1, (one, other))
        self.assert_restored(ROWS[:1], 10, 0, (other, one))
        self.assert_restored(ROWS + LOG, 9, 0, (one, other[:-1]))
        self.assert_restored(ROWS + LOG, 9, 1, (other[:-1], one))
        self.assert_restored(ROWS + LOG[:1], 9, 0, (one[:-1], ""))

    def test_equal_generations(self):
        one, other = area(3, ROWS, LOG), area(3, ROWS[:1])
        self.assert_restored(ROWS + LOG, 3, 0, (one, other))
        self.assert_restored(ROWS[:1], 3, 0, (other, one))

    def test_one_area_is_empty(self):
        text = area(0, ROWS, LOG)
        self.assert_restored(ROWS + LOG, 0, 0, (text, ""))
        self.assert_restored(ROWS + LOG, 0, 1, ("", text))
        self.assert_restored([], 0, 1, ("x", area(0, [])))

    def test_no_book(self):
        for areas in (("", ""), (area(0, ROWS)[:-1], ""), ("x", area(1, [])[:9]), ("\n", "\n")):
            with self.assertRaises(NoBook) as caught:
                restore(SETTING, areas)
            self.assertEqual({}, vars(caught.exception))

    def test_lines_are_taken_in_order(self):
        rows = [(0, 2, "alive", "a"), (0, 1, "left", "b"), (0, 2, "alive", "c"), (5, 0, "alive", "")]
        log = [(5, 0, "dead", ""), (0, 2, "suspect", "d"), (0, 2, "suspect", "e"), (5, 0, "suspect", "")]
        self.assert_restored([(0, 2, "suspect", "d"), (5, 0, "dead", "")], 1, 0, (area(1, rows, log), ""))
        self.assert_restored([(0, 2, "alive", "a"), (5, 0, "alive", "")], 1, 0, (area(1, rows), ""))

    def test_a_list_of_areas(self):
        areas = [area(0, ROWS), area(1, ROWS, LOG)]
        before = list(areas)
        self.assert_restored(ROWS + LOG, 1, 1, areas)
        self.assertEqual(tuple(before), mended(SETTING, areas))
        self.assertEqual(before, areas)
