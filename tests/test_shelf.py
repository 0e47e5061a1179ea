"""Point 52: shelves."""

import random

from livingroll.book import Book
from livingroll.errors import InvalidKey, InvalidSaying, UnknownKey
from livingroll.keys import keeper
from livingroll.setting import Setting
from livingroll.shelf import Shelf
from tests.helpers import NO_TEXTS, Case

SETTING = Setting(3, 1, 4)
WRONG_KEYS = ("", "a" * 21, "A", "a b", "-", "a\n", "\u00e4", *NO_TEXTS)
WRONG_TEXTS = ("", "a" * 13, "A", "a b", "-", "a\n", "\u00e4", *NO_TEXTS)


def shelf_of(**entries):
    shelf = Shelf(SETTING)
    for key, text in entries.items():
        shelf.enter(key, text)
    return shelf


class Entries(Case):
    def test_enter(self):
        shelf = Shelf(SETTING)
        self.assertEqual([[], 0], [shelf.rows(), shelf.total])
        self.assertIsNone(shelf.enter("b", "one"))
        self.assertIsNone(shelf.enter("a" * 20, "x" * 12))
        self.assertIsNone(shelf.enter("9", "0"))
        self.assertEqual([("9", "0"), ("a" * 20, "x" * 12), ("b", "one")], shelf.rows())
        self.assertEqual(3, shelf.total)

    def test_a_key_that_is_held(self):
        shelf = shelf_of(b="one", a="two")
        shelf.enter("b", "three")
        self.assertEqual([[("a", "two"), ("b", "three")], 2], [shelf.rows(), shelf.total])

    def test_drop(self):
        shelf = shelf_of(b="one", a="two")
        self.assertIsNone(shelf.drop("b"))
        self.assertEqual([[("a", "two")], 1], [shelf.rows(), shelf.total])
        self.assert_refused(UnknownKey, "b", shelf.drop, "b")
        shelf.enter("b", "four")
        self.assertEqual([("a", "two"), ("b", "four")], shelf.rows())

    def test_wrong_keys(self):
        shelf = shelf_of(a="two")
        for key in WRONG_KEYS:
            self.assert_refused(InvalidKey, key, shelf.enter, key, "x")
            self.assert_refused(InvalidKey, key, shelf.drop, key)
        self.assertEqual([("a", "two")], shelf.rows())

    def test_wrong_texts(self):
        shelf = shelf_of(a="two")
        for text in WRONG_TEXTS:
            for key in ("a", "b"):
                self.assert_refused(InvalidSaying, text, shelf.enter, key, text)
        self.assertEqual([("a", "two")], shelf.rows())

    def test_both_wrong(self):
        for key in WRONG_KEYS:
            for text in ("", "A", None):
                self.assert_refused(InvalidKey, key, Shelf(SETTING).enter, key, text)

    def test_an_unknown_key(self):
        for shelf in (Shelf(SETTING), shelf_of(a="two")):
            self.assert_refused(UnknownKey, "b", shelf.drop, "b")
            self.assert_refused(UnknownKey, "aa", shelf.drop, "aa")

    def test_total_is_a_property(self):
        self.assertIsInstance(vars(Shelf)["total"], property)

    def test_rows_are_a_new_list(self):
        shelf = shelf_of(a="two")
        shelf.rows().clear()
        self.assertEqual([("a", "two")], shelf.rows())


class Duties(Case):
    def test_nobody_alive(self):
        shelf = shelf_of(a="two")
        for rows in ([], [(1, 1, "suspect", ""), (2, 1, "dead", ""), (3, 1, "left", "")]):
            self.assertEqual({}, shelf.duties(Book(SETTING, rows)))

    def test_one_alive(self):
        book = Book(SETTING, [(4, 1, "alive", ""), (5, 1, "suspect", "")])
        self.assertEqual({4: [("a", "two"), ("b", "one")]}, shelf_of(b="one", a="two").duties(book))
        self.assertEqual({4: []}, Shelf(SETTING).duties(book))

    def test_several_alive(self):
        # The places of a, b, c, g, h are 1, 2, 3, 7, 0.
        shelf = shelf_of(h="h", g="g", c="c", b="b", a="a")
        book = Book(SETTING, [(seat, 2, "alive", "z") for seat in (2, 4, 7)] + [(0, 1, "dead", ""), (3, 1, "suspect", "")])
        told = {2: [("a", "a"), ("b", "b"), ("h", "h")], 4: [("c", "c")], 7: [("g", "g")]}
        self.assertEqual(told, shelf.duties(book))

    def test_a_seat_that_keeps_nothing(self):
        book = Book(SETTING, [(seat, 1, "alive", "") for seat in (1, 2, 7)])
        self.assertEqual({1: [("a", "x")], 2: [], 7: []}, shelf_of(a="x").duties(book))

    def test_what_was_told_may_be_changed(self):
        shelf = shelf_of(a="x")
        book = Book(SETTING, [(1, 1, "alive", "")])
        shelf.duties(book)[1].clear()
        self.assertEqual({1: [("a", "x")]}, shelf.duties(book))

    def test_drawn(self):
        draw = random.Random(52)
        for _ in range(80):
            setting = Setting(draw.randrange(1, 6), 1, 1)
            seats = draw.sample(range(setting.seats), draw.randrange(setting.seats + 1))
            book = Book(setting, [(seat, 1, draw.choice(("alive", "alive", "dead")), "") for seat in seats])
            shelf = Shelf(setting)
            for _ in range(draw.randrange(12)):
                shelf.enter("".join(draw.choice("abc01") for _ in range(draw.randrange(1, 4))), draw.choice("xyz"))
            alive = book.marked("alive")
            told = {seat: [row for row in shelf.rows() if keeper(setting, row[0], alive) == seat] for seat in alive}
            self.assertEqual(told, shelf.duties(book))


class Merged(Case):
    def test_none(self):
        shelf = shelf_of(a="x")
        for keep in (True, False):
            told = shelf.merged(keep=keep)
            self.assertEqual([("a", "x")], told.rows())
            told.enter("b", "y")
            self.assertEqual(1, shelf.total)
        self.assertIsInstance(told, Shelf)

    def test_one(self):
        one, other = shelf_of(a="x", b="y"), shelf_of(b="z", c="w")
        self.assertEqual([("a", "x"), ("b", "y"), ("c", "w")], one.merged(other).rows())
        self.assertEqual([("a", "x"), ("b", "y"), ("c", "w")], one.merged(other, keep=True).rows())
        self.assertEqual([("a", "x"), ("b", "z"), ("c", "w")], one.merged(other, keep=False).rows())

    def test_several(self):
        shelves = [shelf_of(a="1"), shelf_of(b="2", c="2"), shelf_of(c="3", a="3"), shelf_of(c="4", d="4")]
        self.assertEqual([("a", "1"), ("b", "2"), ("c", "2"), ("d", "4")], shelves[0].merged(*shelves[1:]).rows())
        told = shelves[0].merged(*shelves[1:], keep=False)
        self.assertEqual([[("a", "3"), ("b", "2"), ("c", "4"), ("d", "4")], 4], [told.rows(), told.total])

    def test_the_merged_ones_stay_as_they_are(self):
        one, other = shelf_of(a="x", b="y"), shelf_of(b="z")
        for keep in (True, False):
            one.merged(other, one, keep=keep).drop("b")
            self.assertEqual([("a", "x"), ("b", "y")], one.rows())
            self.assertEqual([("b", "z")], other.rows())

    def test_an_empty_one(self):
        self.assertEqual([("a", "x")], Shelf(SETTING).merged(shelf_of(a="x")).rows())
        self.assertEqual([], Shelf(SETTING).merged(Shelf(SETTING)).rows())
