"""Points 1 and 2: what holds for the whole program, over drawn histories of worlds.

The facts of the points 48, 50, 55 and 57 have tests of their own: test_settling, test_changes, test_twin, test_judge.
"""

import random
import unittest

from livingroll.book import Book
from livingroll.desk import Desk
from livingroll.errors import GroupError, InvalidLetter
from livingroll.mending import mend_area, mended, restore
from livingroll.sayings import rank
from livingroll.setting import Setting
from livingroll.twin import Twin
from livingroll.wire import format_letter, parse_letter
from tests.test_desk import drawn_line
from tests.worlds import drawn_losses, drawn_run, drawn_world, letters_of, look


def histories(seed, count, steps, chunk=1):
    """Drawn worlds, each one again behind every few steps of its history."""
    draw = random.Random(seed)
    for _ in range(count):
        world = drawn_world(draw)
        losses = drawn_losses(draw, world.setting)
        for _ in range(0, steps, chunk):
            drawn_run(draw, world, chunk, losses=losses)
            yield draw, world


class Letters(unittest.TestCase):
    """The fact of point 14, and the bound of point 2."""

    def test_written_letters(self):
        kinds = set()
        for draw, world in histories(14, 12, 30, 30):
            for letter in letters_of(world):
                kinds.add(letter.KIND)
                self.assertLessEqual(letter.size, world.setting.room + 2)
                text = format_letter(letter)
                self.assertEqual(letter.parts(), parse_letter(world.setting, text).parts())
        self.assertEqual({"ask", "answer", "probe", "probed", "sums"}, kinds)

    def test_spoilt_letters(self):
        for draw, world in histories(15, 12, 30, 30):
            for _ in range(min(40, world.letters())):
                text = world.letter(draw.randrange(world.letters()))
                at = draw.randrange(len(text))
                other = draw.choice([sign for sign in map(chr, range(32, 127)) if sign != text[at]])
                self.assert_spoilt(world, text[:at] + other + text[at + 1:])
                one, two = sorted(draw.sample(range(len(text) - 5), 2))
                if text[one] != text[two]:
                    self.assert_spoilt(world, text[:one] + text[two] + text[one + 1:two] + text[one] + text[two + 1:])

    def assert_spoilt(self, world, text):
        with self.assertRaises(InvalidLetter) as caught:
            parse_letter(world.setting, text)
        self.assertEqual("check", caught.exception.reason)


class Books(unittest.TestCase):
    """The fact of point 16, for the books of one world."""

    def test_joined_books(self):
        for draw, world in histories(16, 15, 40, 10):
            books = [world.book_of(seat) for seat in world.up()] + [Book(world.setting)]
            one, two, three = [draw.choice(books) for _ in range(3)]
            self.assertEqual(one | two, two | one)
            self.assertEqual((one | two) | three, one | (two | three))
            self.assertEqual(one, one | one)
            self.assertTrue((one | two).covers(one) and (one | two).covers(two))
            self.assertTrue(((one | two) | three).covers(one | two))
            rows = [row for book in (one, two, three) for row in book.rows()] * 2
            draw.shuffle(rows)
            self.assertEqual(one | two | three, Book(world.setting, rows))

    def test_ranks_never_fall(self):
        known, last = None, {}
        for _, world in histories(17, 15, 40):
            if world is not known:
                known, last = world, {}
            for seat in world.up():
                # Each return of a seat begins with what its disk kept.
                key = (seat, len(world.journals()[seat]))
                book = world.book_of(seat)
                self.assertTrue(book.covers(last.get(key, Book(world.setting))))
                last[key] = book


class Disks(unittest.TestCase):
    """The facts of point 34, for the disks of the members of a world."""

    def test_restored_books(self):
        for draw, world in histories(34, 20, 80, 4):
            for seat in world.used():
                areas = world.areas_of(seat)
                self.assertEqual(mended(world.setting, areas), mended(world.setting, mended(world.setting, areas)))
                book, _, index = restore(world.setting, areas)
                self.assertTrue(areas[index].startswith(mend_area(world.setting, areas[index])))
                if seat in world.up():
                    self.assertTrue(world.book_of(seat).covers(book))
            if world.up():
                self.assert_crash(draw, world, draw.choice(world.up()))

    def assert_crash(self, draw, world, seat):
        """What is durable stays, whatever a crash keeps; and nothing comes that was not written."""
        flushed = restore(world.setting, world.areas_of(seat))[0]
        written = world.book_of(seat)
        world.crash(seat, keep=draw.randrange(120))
        areas = world.areas_of(seat)
        book = restore(world.setting, areas)[0]
        self.assertTrue(book.covers(flushed) and written.covers(book))
        for area in areas:
            cut = area[:draw.randrange(len(area) + 1)]
            self.assertTrue(cut.startswith(mend_area(world.setting, cut)))
        if draw.random() < 0.9 and world.state_of(seat) == "down":
            world.revive(seat)


class Lives(unittest.TestCase):
    """The fact of point 39."""

    def test_lives(self):
        known = None
        for _, world in histories(39, 25, 40):
            if world is not known:
                known, start, worths, last = world, 0, {}, {}
            for seat in world.up():
                self.assertGreaterEqual(world.life_of(seat), last.get(seat, 0))
                last[seat] = world.life_of(seat)
            sayings = [saying for letter in letters_of(world, start) for saying in letter.sayings]
            sayings += [row for seat in world.up() for row in world.book_of(seat).rows()]
            start = world.letters()
            for seat, life, _, worth in sayings:
                self.assertLessEqual(life, self.durable(world, seat))
                self.assertEqual(worth, worths.setdefault((seat, life), worth))

    def durable(self, world, seat):
        """The life of a seat that its disk kept if it crashed now."""
        return restore(world.setting, world.areas_of(seat))[0].of(seat)[1]

    def test_a_returned_member_has_a_new_life(self):
        returns = 0
        for draw, world in histories(40, 20, 60):
            deeds = world.history()
            if deeds and deeds[-1][0] == "revive":
                seat = deeds[-1][1]
                lives = [row[1] for letter in letters_of(world) for row in letter.sayings if row[0] == seat]
                self.assertGreater(world.life_of(seat), max(lives, default=0))
                returns += 1
        self.assertGreater(returns, 20)


class Sayings(unittest.TestCase):
    def test_no_letter_overrules_newer_news(self):
        for draw, world in histories(41, 15, 30, 10):
            before = {seat: world.book_of(seat) for seat in world.up()}
            for _ in range(10):
                if world.letters():
                    world.stray(draw.randrange(world.letters()))
            for seat, book in before.items():
                told = world.book_of(seat)
                self.assertTrue(told.covers(book))
                for row in book.rows():
                    self.assertGreaterEqual(rank(told.of(row[0])), rank(row))


class Desks(unittest.TestCase):
    def test_a_desk_and_its_twin(self):
        draw = random.Random(43)
        for _ in range(15):
            desk = Desk(Setting(3, 2, 8), [0, 2, 5])
            for _ in range(30):
                try:
                    desk.do(drawn_line(draw))
                except GroupError:
                    pass
            world = desk.world()
            twin = Twin.behind([5, 0, 2], world.history())
            self.assertEqual([(seat, world.worth_of(seat)) for seat in world.living()], twin.living())
            again = Desk(Setting(3, 2, 8), [0, 2, 5])
            for line in desk.lines():
                again.do(line)
            self.assertEqual(look(world), look(again.world()))
