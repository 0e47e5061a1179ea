"""Points 53 and 54: watches."""

import random

from livingroll.book import Book
from livingroll.errors import DeedRefused
from livingroll.sayings import MARKS
from livingroll.setting import Setting
from livingroll.watch import Watch, replayed
from tests.helpers import Case
from tests.worlds import drawn_run, drawn_world

SETTING = Setting(3, 1, 4)


def book_of(*rows):
    return Book(SETTING, list(rows))


def seen(*rows):
    """The events of the last one of several books of one row each (None: an empty book)."""
    watch = Watch()
    events = []
    for row in rows:
        events = watch.see(book_of(row) if row else book_of())
    return events


class Kinds(Case):
    def test_joined(self):
        for mark in ("alive", "suspect"):
            self.assertEqual([(2, "joined", 3, "ab")], seen((2, 3, mark, "ab")))

    def test_dead_and_left_from_any_other_state(self):
        for mark in ("dead", "left"):
            told = [(2, mark, 5, "b")]
            last = (2, 5, mark, "b")
            self.assertEqual(told, seen(last))
            for before in ("alive", "suspect", "dead", "left"):
                self.assertEqual([] if before == mark else told, seen((2, 3, before, "a"), last))

    def test_back(self):
        for before in ("dead", "left"):
            for mark in ("alive", "suspect"):
                for worth in ("a", "b"):
                    self.assertEqual([(2, "back", 5, worth)], seen((2, 3, before, "a"), (2, 5, mark, worth)))

    def test_changed(self):
        for before in ("alive", "suspect"):
            for mark in ("alive", "suspect"):
                self.assertEqual([(2, "changed", 5, "b")], seen((2, 3, before, "a"), (2, 5, mark, "b")))
                self.assertEqual([(2, "changed", 5, "")], seen((2, 3, before, "a"), (2, 5, mark, "")))
                self.assertEqual([], seen((2, 3, before, "a"), (2, 5, mark, "a")))

    def test_changes_that_tell_nothing(self):
        for rows in (((2, 3, "dead", "a"), (2, 5, "dead", "b")), ((2, 3, "left", "a"), (2, 3, "left", "b")),
                     ((2, 3, "alive", "a"), (2, 3, "suspect", "a")), ((2, 3, "alive", "a"), (2, 3, "alive", "a"))):
            self.assertEqual([], seen(*rows))
        self.assertEqual([], seen(None))

    def test_the_worth_is_compared_with_the_last_one_that_was_in(self):
        self.assertEqual([(2, "back", 9, "a")], seen((2, 3, "alive", "a"), (2, 3, "dead", "a"), (2, 9, "alive", "a")))
        self.assertEqual([], seen((2, 3, "dead", "a"), (2, 5, "alive", "b"), (2, 6, "suspect", "b")))

    def test_a_book_that_does_not_cover_the_one_before(self):
        self.assertEqual([(2, "changed", 1, "z")], seen((2, 3, "alive", "a"), (2, 1, "alive", "z")))
        self.assertEqual([(2, "back", 1, "z")], seen((2, 3, "left", "a"), (2, 1, "alive", "z")))
        self.assertEqual([(2, "dead", 1, "z")], seen((2, 3, "left", "a"), (2, 1, "dead", "z")))

    def test_a_seat_that_the_new_book_does_not_hold(self):
        self.assertEqual([], seen((2, 3, "alive", "a"), None))
        self.assertEqual([], seen((2, 3, "alive", "a"), None, (2, 4, "alive", "a")))
        self.assertEqual([(2, "changed", 4, "b")], seen((2, 3, "alive", "a"), (5, 1, "dead", ""), (2, 4, "alive", "b")))

    def test_events_ascend_by_seat(self):
        watch = Watch()
        self.assertEqual([(0, "joined", 2, "a"), (3, "dead", 1, "")],
                         watch.see(book_of((3, 1, "dead", ""), (0, 2, "alive", "a"))))
        book = book_of((7, 1, "alive", ""), (3, 2, "alive", ""), (0, 3, "left", "a"), (1, 1, "left", ""))
        told = [(0, "left", 3, "a"), (1, "left", 1, ""), (3, "back", 2, ""), (7, "joined", 1, "")]
        self.assertEqual(told, watch.see(book))
        self.assertEqual([], watch.see(book))
        self.assertEqual([], watch.see(book.copy()))


class Changes(Case):
    def watch(self):
        watch = Watch()
        for rows in ([(1, 1, "alive", ""), (2, 1, "alive", "")], [(1, 2, "alive", "x"), (2, 1, "dead", "")],
                     [(2, 2, "alive", "y"), (0, 1, "alive", "")]):
            watch.see(book_of(*rows))
        return watch

    TOLD = [(1, "joined", 1, ""), (2, "joined", 1, ""), (1, "changed", 2, "x"), (2, "dead", 1, ""),
            (0, "joined", 1, ""), (2, "back", 2, "y")]

    def test_all(self):
        self.assertEqual(self.TOLD, list(self.watch().changes()))
        self.assertEqual([], list(Watch().changes()))

    def test_one_kind(self):
        watch = self.watch()
        for kind in ("joined", "back", "dead", "left", "changed", "other", ""):
            self.assertEqual([event for event in self.TOLD if event[1] == kind], list(watch.changes(kind)))
        self.assertEqual(self.TOLD, list(watch.changes(None)))
        self.assertEqual(self.TOLD[3:4], list(watch.changes(kind="dead")))

    def test_it_is_a_generator(self):
        told = self.watch().changes()
        self.assertIs(told, iter(told))
        self.assertEqual(self.TOLD[0], next(told))

    def test_a_list_that_was_told_is_changed(self):
        watch = Watch()
        told = watch.see(book_of((1, 1, "alive", "")))
        told.append("x")
        told.clear()
        self.assertEqual([(1, "joined", 1, "")], list(watch.changes()))


class Pausing(Case):
    def test_pause_and_resume(self):
        watch = Watch()
        self.assertIs(False, watch.paused)
        self.assert_refused(DeedRefused, ("resume",), watch.resume)
        self.assertIsNone(watch.pause())
        self.assertIs(True, watch.paused)
        self.assert_refused(DeedRefused, ("pause",), watch.pause)
        self.assertIs(True, watch.paused)
        self.assertIsNone(watch.resume())
        self.assertIs(False, watch.paused)
        self.assert_refused(DeedRefused, ("resume",), watch.resume)

    def test_what_a_paused_watch_is_shown_is_not_seen(self):
        watch = Watch()
        watch.see(book_of((1, 1, "alive", "a")))
        watch.pause()
        self.assertEqual([], watch.see(book_of((1, 2, "alive", "b"), (2, 1, "alive", ""))))
        self.assertEqual([(1, "joined", 1, "a")], list(watch.changes()))
        watch.resume()
        self.assertEqual([], watch.see(book_of((1, 3, "alive", "a"))))
        told = [(1, "changed", 2, "b"), (2, "joined", 1, "")]
        self.assertEqual(told, watch.see(book_of((1, 2, "alive", "b"), (2, 1, "alive", ""))))

    def test_a_new_list_each_time(self):
        watch = Watch()
        watch.pause()
        watch.see(book_of()).append(1)
        self.assertEqual([], watch.see(book_of()))


class Replayed(Case):
    def test_each_kind(self):
        self.assertEqual([], replayed([]))
        self.assertEqual([(1, "a")], replayed([(1, "joined", 1, "a")]))
        self.assertEqual([(1, "")], replayed([(1, "dead", 1, "a"), (1, "back", 2, "")]))
        self.assertEqual([(1, "b")], replayed([(1, "joined", 1, "a"), (1, "changed", 2, "b")]))
        for kind in ("dead", "left"):
            self.assertEqual([], replayed([(1, kind, 1, "a")]))
            self.assertEqual([(0, "z")], replayed([(1, "joined", 1, "a"), (0, "joined", 1, "z"), (1, kind, 1, "a")]))

    def test_several_seats(self):
        self.assertEqual([(0, ""), (2, "y")], replayed(Changes.TOLD[:2] + Changes.TOLD[4:] + [(1, "left", 3, "")]))
        self.assertEqual([(0, ""), (1, "x"), (2, "y")], replayed(list(Changes.TOLD)))

    def pairs(self, book):
        return [(row[0], row[3]) for row in book.rows() if row[2] in ("alive", "suspect")]

    def test_drawn_books_that_cover_one_another(self):
        draw = random.Random(53)
        for _ in range(60):
            book, watch = book_of(), Watch()
            last = book.copy()
            for _ in range(25):
                for _ in range(draw.randrange(4)):
                    book.take((draw.randrange(8), draw.randrange(5), draw.choice(MARKS), draw.choice(("", "a", "b"))))
                if draw.random() < 0.2:
                    (watch.resume if watch.paused else watch.pause)()
                told = watch.see(book)
                if watch.paused:
                    self.assertEqual([], told)
                else:
                    last = book.copy()
                    self.assertEqual([], watch.see(last))
                self.assertEqual(self.pairs(last), replayed(list(watch.changes())))

    def test_the_books_of_members(self):
        draw = random.Random(54)
        for _ in range(15):
            world = drawn_world(draw)
            seat, watch = world.used()[0], Watch()
            for _ in range(20):
                drawn_run(draw, world, 2)
                if seat in world.up() and len(world.journals()[seat]) == 1:
                    book = world.book_of(seat)
                    watch.see(book)
                    self.assertEqual(self.pairs(book), replayed(list(watch.changes())))
