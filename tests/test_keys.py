"""Points 6 and 51: keys, their places and their keepers."""

import random

from livingroll.errors import InvalidKey
from livingroll.keys import keeper, moved, place_of, shares
from livingroll.setting import Setting
from tests.helpers import NO_TEXTS, Case

SETTING = Setting(3, 1, 4)
SIGNS = "abcdefghijklmnopqrstuvwxyz0123456789"
WRONG = ("", "a" * 21, "A", "aB", "a b", " a", "a ", "-", "a-b", "\u00e4", "\u0663", "a\n", "\n", *NO_TEXTS)


def drawn_key(draw):
    return "".join(draw.choice(SIGNS) for _ in range(draw.randrange(1, 21)))


class Places(Case):
    def test_keys_of_one_character(self):
        for sign in SIGNS:
            self.assertEqual(ord(sign) % 8, place_of(SETTING, sign))
            self.assertEqual(ord(sign), place_of(Setting(8, 1, 1), sign))

    def test_keys_of_several_characters(self):
        self.assertEqual((97 * 31 + 98) % 256, place_of(Setting(8, 1, 1), "ab"))
        self.assertEqual((98 * 31 + 97) % 256, place_of(Setting(8, 1, 1), "ba"))
        draw = random.Random(51)
        for _ in range(200):
            key = drawn_key(draw)
            for bits in range(1, 9):
                whole = sum(ord(sign) * 31 ** at for at, sign in enumerate(reversed(key)))
                self.assertEqual(whole % 2 ** bits, place_of(Setting(bits, 1, 1), key))

    def test_keys_of_twenty_characters(self):
        for key in ("a" * 20, "z9" * 10, "0" * 20):
            self.assertIn(place_of(SETTING, key), range(8))

    def test_wrong_keys(self):
        for key in WRONG:
            self.assert_refused(InvalidKey, key, place_of, SETTING, key)
            self.assert_refused(InvalidKey, key, keeper, SETTING, key, [1])
            self.assert_refused(InvalidKey, key, keeper, SETTING, key, [])


class Keepers(Case):
    def test_nobody(self):
        self.assertIsNone(keeper(SETTING, "ab", []))

    def test_one(self):
        for seat in range(8):
            self.assertEqual(seat, keeper(SETTING, "ab", [seat]))

    def test_several_in_any_order(self):
        # The place of "ab" is 1.
        for alive in ([0, 5], [5, 0]):
            self.assertEqual(5, keeper(SETTING, "ab", alive))
        for alive in ([7, 1, 2], [2, 7, 1]):
            given = list(alive)
            self.assertEqual(1, keeper(SETTING, "ab", alive))
            self.assertEqual(given, alive)
        self.assertEqual(0, keeper(SETTING, "ab", [0]))

    def test_around_the_ring(self):
        draw = random.Random(6)
        for _ in range(300):
            setting = Setting(draw.randrange(1, 6), 1, 1)
            alive = draw.sample(range(setting.seats), draw.randrange(1, setting.seats + 1))
            key = drawn_key(draw)
            place = place_of(setting, key)
            while place not in alive:
                place = (place + 1) % setting.seats
            self.assertEqual(place, keeper(setting, key, alive))


class Shares(Case):
    def test_nobody_one_and_all(self):
        self.assertEqual([], shares(SETTING, []))
        self.assertEqual([(5, 8)], shares(SETTING, [5]))
        self.assertEqual([(seat, 1) for seat in range(8)], shares(SETTING, list(range(8))))
        self.assertEqual([(0, 2)], shares(Setting(1, 1, 1), [0]))

    def test_any_order(self):
        for alive in ([0, 5], [5, 0]):
            given = list(alive)
            self.assertEqual([(0, 3), (5, 5)], shares(SETTING, alive))
            self.assertEqual(given, alive)

    def test_drawn(self):
        draw = random.Random(7)
        for _ in range(200):
            setting = Setting(draw.randrange(1, 7), 1, 1)
            alive = draw.sample(range(setting.seats), draw.randrange(1, setting.seats + 1))
            firsts = []
            for place in range(setting.seats):
                firsts.append(next((place + step) % setting.seats for step in range(setting.seats)
                                   if (place + step) % setting.seats in alive))
            told = shares(setting, alive)
            self.assertEqual([(seat, firsts.count(seat)) for seat in sorted(alive)], told)
            self.assertEqual(setting.seats, sum(number for _, number in told))


class Moved(Case):
    def test_nothing_moves(self):
        for alive in ([], [3], [1, 6]):
            self.assertEqual([], moved(SETTING, ["a", "b", "ab"], alive, list(reversed(alive))))
        self.assertEqual([], moved(SETTING, [], [1], [2]))

    def test_a_seat_is_added(self):
        # The places of a .. h are 1, 2, 3, 4, 5, 6, 7, 0.
        keys = list("abcdefgh")
        self.assertEqual([("b", 6, 3), ("c", 6, 3)], moved(SETTING, keys, [1, 6], [3, 1, 6]))

    def test_a_seat_is_removed(self):
        keys = list("hgfedcba")
        self.assertEqual([("c", 3, 6), ("b", 3, 6)], moved(SETTING, keys, [3, 1, 6], [6, 1]))
        self.assertEqual([("g", 7, 1), ("f", 7, 1)], moved(SETTING, ["g", "f", "a", "e"], [1, 5, 7], [1, 5]))

    def test_none_left_and_none_before(self):
        self.assertEqual([("a", 4, None), ("h", 4, None)], moved(SETTING, ["a", "h"], [4], []))
        self.assertEqual([("a", None, 4)], moved(SETTING, ["a"], [], [4]))

    def test_keys_that_stand_twice(self):
        self.assertEqual([("a", 4, 5), ("b", 4, 5), ("a", 4, 5)], moved(SETTING, ["a", "b", "a"], [4], [5]))

    def test_bad_keys(self):
        for key in WRONG:
            self.assert_refused(InvalidKey, key, moved, SETTING, ["a", key, "B", "c"], [1], [1])
        self.assert_refused(InvalidKey, "B", moved, SETTING, ["a", "B", ""], [], [])

    def test_drawn(self):
        draw = random.Random(8)
        for _ in range(150):
            setting = Setting(draw.randrange(1, 6), 1, 1)
            keys = [drawn_key(draw) for _ in range(20)]
            less = draw.sample(range(setting.seats), draw.randrange(0, setting.seats))
            seat = draw.choice([seat for seat in range(setting.seats) if seat not in less])
            more = less + [seat]
            draw.shuffle(more)
            told = moved(setting, keys, less, more)
            self.assertLessEqual({new for _, _, new in told}, {seat})
            back = moved(setting, keys, more, less)
            self.assertEqual([(key, new, old) for key, old, new in told], back)
            behind = min(less, key=lambda other: (other - seat) % setting.seats, default=None)
            self.assertLessEqual({new for _, _, new in back}, {behind})
            changed = [key for key in keys if keeper(setting, key, less) != keeper(setting, key, more)]
            self.assertEqual(changed, [key for key, _, _ in told])
