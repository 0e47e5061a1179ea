"""Points 33 and 34: what is durable on a disk, and what a crash leaves of it."""

import random

from livingroll.book import Book
from livingroll.disk import Disk
from livingroll.errors import NoBook
from livingroll.mending import disk_line, mended, restore
from livingroll.sayings import MARKS, format_saying
from livingroll.setting import Setting
from tests.helpers import Case
from tests.test_mending import LOG, ROWS, area

SETTING = Setting(3, 1, 4)
FRESH = area(0, ROWS)
LINES = [disk_line(format_saying(saying)) for saying in LOG]


def fresh():
    return Disk.fresh(SETTING, ROWS)


class Fresh(Case):
    def test_without_and_with_rows_in_any_order(self):
        for rows in ([], ROWS, ROWS[::-1], ROWS + ROWS[:1], [(0, 5, "alive", ""), (0, 1, "dead", "x")]):
            given = list(rows)
            disk = Disk.fresh(SETTING, given)
            self.assertEqual([(area(0, rows), ""), 0, 0], [disk.areas(), disk.pending, disk.log_lines])
            self.assertEqual(rows, given)
            given.clear()
            self.assertEqual((area(0, rows), ""), disk.areas())
            self.assertIs(tuple, disk.areas().__class__)

    def test_area_0_is_current(self):
        disk = fresh()
        disk.append(LOG[0])
        disk.flush()
        self.assertEqual((FRESH + LINES[0], ""), disk.areas())

    def test_log_most(self):
        self.assertEqual([12, 12], [Disk.LOG_MOST, fresh().LOG_MOST])
        self.assertIn("LOG_MOST", vars(Disk))

    def test_nothing_happens_to_the_book_at_log_most(self):
        disk = fresh()
        for _ in range(Disk.LOG_MOST + 3):
            disk.append(LOG[0])
        self.assertEqual([15, 15 * len(LINES[0])], [disk.log_lines, disk.pending])
        disk.flush()
        self.assertEqual([(FRESH + LINES[0] * 15, ""), 15], [disk.areas(), disk.log_lines])


class Writing(Case):
    def test_append_is_pending_until_it_is_flushed(self):
        disk = fresh()
        self.assertIsNone(disk.append(LOG[0]))
        self.assertEqual([(FRESH, ""), len(LINES[0]), 1], [disk.areas(), disk.pending, disk.log_lines])
        disk.append(LOG[1])
        self.assertEqual([(FRESH, ""), len(LINES[0] + LINES[1]), 2], [disk.areas(), disk.pending, disk.log_lines])
        self.assertIsNone(disk.flush())
        self.assertEqual([(FRESH + LINES[0] + LINES[1], ""), 0, 2], [disk.areas(), disk.pending, disk.log_lines])

    def test_append_writes_whatever_saying(self):
        disk = fresh()
        for saying in (LOG[0], LOG[0], ROWS[0], (0, 0, "alive", "")):
            disk.append(saying)
        disk.flush()
        self.assertEqual(area(0, ROWS, [LOG[0], LOG[0], ROWS[0], (0, 0, "alive", "")]), disk.areas()[0])
        self.assertEqual(4, disk.log_lines)

    def test_flush_without_pending_writes(self):
        disk = fresh()
        disk.flush()
        self.assertEqual([(FRESH, ""), 0, 0], [disk.areas(), disk.pending, disk.log_lines])

    def test_rewrite_goes_to_the_other_area(self):
        disk = fresh()
        rows = LOG[::-1]
        self.assertIsNone(disk.rewrite(rows))
        self.assertEqual(LOG[::-1], rows)
        rows.clear()
        text = area(1, LOG[::-1])
        self.assertEqual([(FRESH, ""), len(text), 0], [disk.areas(), disk.pending, disk.log_lines])
        disk.append(LOG[1])
        self.assertEqual([(FRESH, ""), len(text + LINES[1]), 1], [disk.areas(), disk.pending, disk.log_lines])
        disk.flush()
        self.assertEqual([(FRESH, text + LINES[1]), 0, 1], [disk.areas(), disk.pending, disk.log_lines])

    def test_rewrites_take_turns_and_empty_their_area(self):
        disk = fresh()
        disk.append(LOG[0])
        disk.rewrite(LOG[:1])
        disk.append(LOG[1])
        disk.flush()
        self.assertEqual((FRESH + LINES[0], area(1, LOG[:1], LOG[1:])), disk.areas())
        disk.rewrite(ROWS[:1])
        self.assertEqual((FRESH + LINES[0], area(1, LOG[:1], LOG[1:])), disk.areas())
        disk.flush()
        self.assertEqual((area(2, ROWS[:1]), area(1, LOG[:1], LOG[1:])), disk.areas())
        disk.rewrite([])
        disk.append(LOG[0])
        disk.flush()
        self.assertEqual((area(2, ROWS[:1]), area(3, [], LOG[:1])), disk.areas())

    def test_several_rewrites_ahead_of_a_flush(self):
        disk = fresh()
        disk.append(LOG[0])
        disk.rewrite(LOG)
        disk.append(LOG[1])
        disk.rewrite(ROWS[:2])
        disk.append(LOG[0])
        disk.append(LOG[1])
        texts = [LINES[0], area(1, LOG), LINES[1], area(2, ROWS[:2]), LINES[0], LINES[1]]
        self.assertEqual([len("".join(texts)), 2], [disk.pending, disk.log_lines])
        disk.flush()
        self.assertEqual([(area(2, ROWS[:2], LOG), area(1, LOG, LOG[1:])), 0, 2], [disk.areas(), disk.pending, disk.log_lines])

    def test_generations_of_more_digits(self):
        disk = fresh()
        for _ in range(11):
            disk.rewrite([])
        disk.flush()
        self.assertEqual((area(10, []), area(11, [])), disk.areas())

    def test_log_lines_of_a_rewrite(self):
        disk = fresh()
        for _ in range(3):
            disk.append(LOG[0])
        disk.flush()
        disk.append(LOG[0])
        self.assertEqual(4, disk.log_lines)
        disk.rewrite(ROWS)
        self.assertEqual(0, disk.log_lines)
        disk.append(LOG[0])
        self.assertEqual(1, disk.log_lines)


class Crashing(Case):
    def made(self):
        """A disk with two pending appends around a pending rewrite, and the texts of these writes."""
        disk = fresh()
        disk.append(LOG[0])
        disk.flush()
        disk.append(LOG[1])
        disk.rewrite(LOG)
        disk.append(LOG[0])
        return disk, [LINES[1], area(1, LOG), LINES[0]]

    def test_nothing_is_kept(self):
        disk, _ = self.made()
        self.assertIsNone(disk.crash(0))
        self.assertEqual((FRESH + LINES[0], ""), disk.areas())

    def test_each_number_up_to_pending_and_beyond(self):
        pending = self.made()[0].pending
        self.assertEqual(len("".join(self.made()[1])), pending)
        for keep in [*range(pending + 3), 10 ** 30]:
            disk, texts = self.made()
            disk.crash(keep)
            kept = "".join(texts)[:keep]
            first = len(texts[0])
            self.assertEqual((FRESH + LINES[0] + kept[:first], kept[first:]), disk.areas())

    def test_all_kept_is_as_if_flushed(self):
        disk, _ = self.made()
        other, _ = self.made()
        disk.crash(disk.pending)
        other.flush()
        self.assertEqual(other.areas(), disk.areas())

    def test_a_rewrite_of_which_nothing_one_character_and_all_is_kept(self):
        for more, told in ((0, area(1, ROWS, LOG[:1])), (1, "a"), (2, "ar"), (len(area(3, LOG)), area(3, LOG))):
            disk = fresh()
            disk.rewrite(ROWS)
            disk.append(LOG[0])
            disk.rewrite(ROWS)
            disk.flush()
            disk.append(LOG[1])
            disk.rewrite(LOG)
            disk.crash(len(LINES[1]) + more)
            self.assertEqual((area(2, ROWS, LOG[1:]), told), disk.areas())

    def test_two_rewrites_are_kept_in_their_order(self):
        disk = fresh()
        disk.rewrite(LOG)
        disk.rewrite(ROWS[:1])
        disk.crash(len(area(1, LOG)))
        self.assertEqual((FRESH, area(1, LOG)), disk.areas())
        disk = fresh()
        disk.rewrite(LOG)
        disk.rewrite(ROWS[:1])
        disk.crash(len(area(1, LOG)) + 4)
        self.assertEqual(("area", area(1, LOG)), disk.areas())

    def test_without_pending_writes(self):
        disk = fresh()
        disk.crash(7)
        self.assertEqual((FRESH, ""), disk.areas())


class Reopened(Case):
    def test_it_holds_the_mended_texts(self):
        one, other = area(4, ROWS, LOG), area(5, ROWS[:1])
        for areas in ((one, other), (other, one), (one[:-2], ""), ("x", one), (one, other[:-1]), [one, other + "0 2"]):
            given = list(areas)
            disk = Disk.reopened(SETTING, areas)
            self.assertEqual([mended(SETTING, areas), 0], [disk.areas(), disk.pending])
            self.assertEqual(given, list(areas))

    def test_log_lines(self):
        one, other = area(4, ROWS, LOG), area(5, ROWS[:1], LOG * 6)
        for areas, lines in (((one, ""), 2), ((one, other), 12), ((other, one), 12), ((one, other[:-1]), 11),
                             ((one, area(5, [])), 0), ((one, area(4, [])), 2), ((area(4, []), one), 0)):
            self.assertEqual(lines, Disk.reopened(SETTING, areas).log_lines)

    def test_no_book(self):
        for areas in (("", ""), (FRESH[:-1], "x")):
            with self.assertRaises(NoBook):
                Disk.reopened(SETTING, areas)

    def test_it_goes_on_with_the_current_area(self):
        one, other = area(4, ROWS, LOG[:1]), area(5, ROWS[:1])
        for areas, told in (((one, other), (one, other + LINES[1])), ((other, one), (other + LINES[1], one)),
                            ((one, other[:-1]), (one + LINES[1], "")), ((one, one), (one + LINES[1], one))):
            disk = Disk.reopened(SETTING, areas)
            lines = disk.log_lines
            disk.append(LOG[1])
            self.assertEqual([mended(SETTING, areas), len(LINES[1]), lines + 1], [disk.areas(), disk.pending, disk.log_lines])
            disk.flush()
            self.assertEqual([told, 0, lines + 1], [disk.areas(), disk.pending, disk.log_lines])

    def test_it_goes_on_with_the_next_generation(self):
        one, other = area(4, ROWS, LOG[:1]), area(9, ROWS[:1])
        for areas, told in (((one, other), (area(10, LOG), other)), ((other, one), (other, area(10, LOG))),
                            ((one, other[:-1]), (one, area(5, LOG)))):
            disk = Disk.reopened(SETTING, areas)
            disk.rewrite(LOG)
            self.assertEqual([mended(SETTING, areas), 0], [disk.areas(), disk.log_lines])
            disk.flush()
            self.assertEqual(told, disk.areas())

    def test_it_may_crash_again(self):
        disk = Disk.reopened(SETTING, (area(4, ROWS, LOG[:1]), area(5, ROWS[:1])[:-1]))
        disk.append(LOG[1])
        disk.rewrite(LOG)
        disk.crash(len(LINES[1]) + 3)
        self.assertEqual((area(4, ROWS, LOG), "are"), disk.areas())


class Facts(Case):
    """Point 34: what was flushed is there behind each crash, and nothing that was not written."""

    def drawn_steps(self, draw):
        steps = []
        for _ in range(draw.randrange(12)):
            saying = (draw.randrange(8), draw.randrange(12), draw.choice(MARKS), "")
            steps.append(draw.choice((("append", saying), ("append", saying), ("rewrite", None), ("flush", None))))
        return steps

    def done(self, disk, book, steps):
        """Do the steps; return the book of all that was flushed and that of all that was written."""
        written, flushed = book.copy(), book.copy()
        for word, saying in steps:
            if word == "append":
                disk.append(saying)
                written.take(saying)
            elif word == "rewrite":
                disk.rewrite(written.rows())
            else:
                disk.flush()
                flushed = written.copy()
        return flushed, written

    def assert_between(self, flushed, written, areas):
        restored = restore(SETTING, areas)[0]
        self.assertTrue(restored.covers(flushed))
        self.assertTrue(written.covers(restored))
        self.assertEqual(mended(SETTING, areas), mended(SETTING, mended(SETTING, areas)))

    def test_every_keep(self):
        draw = random.Random(33)
        for _ in range(20):
            steps = self.drawn_steps(draw)
            keep = pending = 0
            while keep <= pending + 1:
                disk = fresh()
                flushed, written = self.done(disk, Book(SETTING, ROWS), steps)
                pending = disk.pending
                disk.crash(keep)
                self.assert_between(flushed, written, disk.areas())
                keep += 1

    def test_several_crashes(self):
        draw = random.Random(34)
        for _ in range(150):
            disk, book = fresh(), Book(SETTING, ROWS)
            for _ in range(4):
                flushed, written = self.done(disk, book, self.drawn_steps(draw))
                disk.crash(draw.randrange(disk.pending + 2))
                self.assert_between(flushed, written, disk.areas())
                areas = disk.areas()
                disk, book = Disk.reopened(SETTING, areas), restore(SETTING, areas)[0]
                self.assertEqual(mended(SETTING, areas), disk.areas())
