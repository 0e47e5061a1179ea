"""Points 4, 5 and 6: settings, their written form, and the ring."""

import random

from livingroll.errors import InvalidSetting
from livingroll.setting import Setting, arc, distance, first_from
from tests.helpers import NO_INTEGERS, NO_TEXTS, Case

GOOD = {"bits": 3, "patience": 2, "room": 4, "grace": 6, "helpers": 1}
RANGES = {"bits": (1, 8), "patience": (1, 6), "room": (1, 64), "grace": (1, 200), "helpers": (0, 3)}
FIELDS = list(RANGES)


def make(**changed):
    values = {**GOOD, **changed}
    named = {name: values.pop(name) for name in ("helpers", "grace")}
    return Setting(*values.values(), **named)


def told(setting):
    return [getattr(setting, name) for name in FIELDS]


class Making(Case):
    def test_both_ends_of_each_range_are_taken(self):
        for field, ends in RANGES.items():
            for value in ends:
                with self.subTest(field=field, value=value):
                    self.assertEqual([{**GOOD, field: value}[name] for name in FIELDS], told(make(**{field: value})))

    def test_one_beyond_either_end_is_refused(self):
        for field, (least, most) in RANGES.items():
            for value in (least - 1, most + 1, -(10 ** 70), 10 ** 70):
                with self.subTest(field=field, value=value):
                    self.assert_refused(InvalidSetting, field, make, **{field: value})

    def test_other_kinds_than_integers_are_refused(self):
        for field in FIELDS:
            for value in NO_INTEGERS:
                with self.subTest(field=field, value=value):
                    self.assert_refused(InvalidSetting, field, make, **{field: value})

    def test_the_first_bad_argument_is_named(self):
        for at, field in enumerate(FIELDS):
            for bad in (0, True, None, "x", 10 ** 9):
                wrong = {name: -1 if bad == 0 else bad for name in FIELDS[at:]}
                with self.subTest(field=field, bad=bad):
                    self.assert_refused(InvalidSetting, field, make, **wrong)

    def test_pairs_of_bad_arguments_in_any_order_of_kinds(self):
        for at, first in enumerate(FIELDS):
            for second in FIELDS[at + 1:]:
                for bad in ((-1, None), (None, -1), (999, True), (True, 999)):
                    with self.subTest(first=first, second=second, bad=bad):
                        self.assert_refused(InvalidSetting, first, make, **{first: bad[0], second: bad[1]})

    def test_grace_is_named_before_helpers_in_either_order_of_passing(self):
        self.assert_refused(InvalidSetting, "grace", Setting, 3, 2, 4, grace=0, helpers=4)
        self.assert_refused(InvalidSetting, "grace", Setting, 3, 2, 4, helpers=4, grace=0)
        self.assert_refused(InvalidSetting, "helpers", Setting, 3, 2, 4, helpers=4, grace=6)
        self.assert_refused(InvalidSetting, "helpers", Setting, 3, 2, 4, helpers=4)

    def test_grace_and_helpers_may_be_left_out(self):
        self.assertEqual([3, 2, 4, 6, 1], told(Setting(3, 2, 4)))
        self.assertEqual([3, 2, 4, 9, 1], told(Setting(3, 2, 4, grace=9)))
        self.assertEqual([3, 2, 4, 6, 0], told(Setting(3, 2, 4, helpers=0)))

    def test_grace_and_helpers_are_passed_by_name_alone(self):
        self.assertRaises(TypeError, Setting, 3, 2, 4, 6)

    def test_properties(self):
        self.assertEqual([2, 4, 8, 16, 32, 64, 128, 256], [make(bits=n).seats for n in range(1, 9)])
        self.assertEqual([3, 6, 12, 48], [make(bits=a, patience=b).cycle for a, b in ((3, 1), (3, 2), (2, 6), (8, 6))])
        stripes = [make(bits=3, room=n).stripes for n in range(1, 10)]
        self.assertEqual([8, 4, 3, 2, 2, 2, 2, 1, 1], stripes)
        self.assertEqual([256, 4, 1, 128], [make(bits=a, room=b).stripes for a, b in ((8, 1), (8, 64), (1, 64), (8, 2))])

    def test_class_values(self):
        values = [Setting.MOST_BITS, Setting.MOST_PATIENCE, Setting.MOST_ROOM, Setting.MOST_GRACE, Setting.MOST_HELPERS]
        self.assertEqual([8, 6, 64, 200, 3], values)


class Text(Case):
    def test_written_form(self):
        self.assertEqual("bits=3 patience=2 room=4 grace=6 helpers=1", str(Setting(3, 2, 4)))
        self.assertEqual("bits=8 patience=6 room=64 grace=200 helpers=0", str(Setting(8, 6, 64, grace=200, helpers=0)))

    def test_there_and_back(self):
        for field, ends in RANGES.items():
            for value in ends:
                setting = make(**{field: value})
                again = Setting.of_text(str(setting))
                with self.subTest(field=field, value=value):
                    self.assertIsInstance(again, Setting)
                    self.assertEqual(told(setting), told(again))
                    self.assertEqual(str(setting), str(again))

    def test_no_texts(self):
        for value in (*NO_TEXTS, b"bits=3 patience=2 room=4 grace=6 helpers=1", ["bits=3"], Setting(3, 2, 4)):
            with self.subTest(value=value):
                self.assert_refused(InvalidSetting, "text", Setting.of_text, value)

    def test_words_left_out_doubled_exchanged_and_added(self):
        words = str(Setting(3, 2, 4)).split(" ")
        for at in range(5):
            without = words[:at] + words[at + 1:]
            doubled = words[:at] + [words[at]] + words[at:]
            self.refused(" ".join(without))
            self.refused(" ".join(doubled))
            self.refused(" ".join(without + [words[(at + 1) % 5]]))
            for other in range(at):
                exchanged = list(words)
                exchanged[at], exchanged[other] = words[other], words[at]
                self.refused(" ".join(exchanged))
        for more in ("bits=3", "more=1", "", "1"):
            self.refused(" ".join([*words, more]))
            self.refused(" ".join([more, *words]))

    def test_separators_and_spaces(self):
        good = str(Setting(3, 2, 4))
        for text in ("", " ", " " + good, good + " ", good + "\n", "\n" + good, good.replace(" ", "  ", 1)):
            self.refused(text)
        for other in (",", "\t", "\n", "", "  ", ";", "\u00a0"):
            self.refused(good.replace(" ", other))
            self.refused(good.replace(" ", other, 1))
        for other in (":", "", "==", " = ", " =", "= ", "-"):
            self.refused(good.replace("=", other))
            self.refused(good.replace("=", other, 1))

    def test_names_of_other_words(self):
        good = str(Setting(3, 2, 4))
        for name in FIELDS:
            for other in (name.upper(), name + "s", name[1:], "", "other", " " + name):
                self.refused(good.replace(name + "=", other + "="))

    def test_numbers_of_another_form(self):
        wrong = ("+3", "-3", "03", "003", "00", "-0", "", "3.0", "3_0", "0x3", "3 ", "a", "1e1", "\u0663", "\u00b2", "\uff13")
        for field, value in GOOD.items():
            for number in (*wrong, "1000", "0003", "9999", "1" * 5000, "0" * 5000):
                self.refused(str(make()).replace(f"{field}={value}", f"{field}={number}"))

    def test_the_first_field_out_of_range_is_named(self):
        for at, field in enumerate(FIELDS):
            for number in (999, RANGES[field][1] + 1, RANGES[field][0] - 1):
                if number < 0:
                    continue
                words = [f"{name}={GOOD[name]}" for name in FIELDS]
                words[at] = f"{field}={number}"
                with self.subTest(field=field, number=number):
                    self.assert_refused(InvalidSetting, field, Setting.of_text, " ".join(words))
                words[at:] = [f"{name}=999" for name in FIELDS[at:]]
                with self.subTest(fields=words):
                    self.assert_refused(InvalidSetting, field, Setting.of_text, " ".join(words))

    def test_the_form_is_looked_at_before_the_ranges(self):
        for text in (
            "bits=999 patience=2 room=4 grace=6",
            "bits=999 patience=2 room=4 grace=6 helpers=1 ",
            "bits=0 patience=2 room=4 grace=6 helpers=01",
            "bits=9 patience=2 room=4 grace=1000 helpers=1",
            "bits=9 patience=2 room=4 helpers=1 grace=6",
        ):
            self.refused(text)

    def refused(self, text):
        with self.subTest(text=text):
            self.assert_refused(InvalidSetting, "text", Setting.of_text, text)


class Ring(Case):
    def test_distance(self):
        setting = Setting(3, 1, 4)
        self.assertEqual([3, 0, 7, 1, 5], [distance(setting, *pair) for pair in ((6, 1), (4, 4), (1, 0), (7, 0), (0, 5))])

    def test_distance_of_all_pairs(self):
        for bits in (1, 2, 3, 8):
            setting = Setting(bits, 1, 4)
            seats = 2 ** bits
            for seat in range(0, seats, max(1, seats // 8)):
                for steps in range(seats):
                    self.assertEqual(steps, distance(setting, seat, (seat + steps) % seats))

    def test_distance_of_integers_of_any_size(self):
        setting = Setting(3, 1, 4)
        much = 8 * 10 ** 70
        for seat, other, way in ((6, 1, 3), (1, 6, 5), (2, 2, 0)):
            for one in (0, 8, -8, much, -much):
                for two in (0, 8, -8, much, -much):
                    with self.subTest(seat=seat + one, other=other + two):
                        self.assertEqual(way, distance(setting, seat + one, other + two))

    def test_first_from(self):
        setting = Setting(3, 1, 4)
        self.assertEqual([1, 1, 6, 6, 6, 6, 6, 1], [first_from(setting, place, [1, 6]) for place in range(8)])
        self.assertEqual([1, 6, 1], [first_from(setting, place, [6, 1]) for place in (7, 2, 8)])
        self.assertEqual(5, first_from(setting, 6, [5]))
        self.assertEqual(0, first_from(setting, 6, [0, 1, 5]))
        self.assertEqual([1, 6], [first_from(setting, place, [6, 1]) for place in (-8 * 10 ** 70, 8 * 10 ** 70 + 2)])

    def test_first_from_of_nothing(self):
        self.assertIsNone(first_from(Setting(3, 1, 4), 5, []))

    def test_arc(self):
        setting = Setting(3, 1, 4)
        held = [0, 1, 2, 5, 7]
        self.assertEqual([7, 0, 1, 2], arc(setting, 6, 2, held))
        self.assertEqual([2], arc(setting, 1, 3, held))
        self.assertEqual([5], arc(setting, 2, 5, held))
        self.assertEqual([7, 0, 1, 2], arc(setting, 5, 4, held))
        self.assertEqual([], arc(setting, 2, 4, held))
        self.assertEqual([], arc(setting, 0, 3, []))

    def test_arc_around_the_whole_ring(self):
        setting = Setting(3, 1, 4)
        held = [7, 2, 0, 5, 1]
        self.assertEqual([5, 7, 0, 1, 2], arc(setting, 2, 2, held))
        self.assertEqual([5, 7, 0, 1, 2], arc(setting, 3, 3, held))
        self.assertEqual([5, 7, 0, 1, 2], arc(setting, 2, 10, held))
        self.assertEqual([5, 7, 0, 1, 2], arc(setting, 2 - 8 * 10 ** 70, 2 + 8 * 10 ** 70, held))
        self.assertEqual([4], arc(setting, 4, 4, [4]))

    def test_arc_of_integers_of_any_size(self):
        setting = Setting(3, 1, 4)
        for more in (8, -8, 8 * 10 ** 70, -8 * 10 ** 70):
            self.assertEqual([7, 0, 1, 2], arc(setting, 6 + more, 2, [0, 1, 2, 5, 7]))
            self.assertEqual([7, 0, 1, 2], arc(setting, 6, 2 + more, [0, 1, 2, 5, 7]))

    def test_arc_as_a_walk(self):
        setting = Setting(4, 1, 4)
        draw = random.Random(4)
        for _ in range(300):
            held = draw.sample(range(16), draw.randrange(17))
            low, high = draw.randrange(16), draw.randrange(16)
            way = [(low + step) % 16 for step in range(1, 17)]
            way = way[:way.index(high) + 1]
            self.assertEqual([seat for seat in way if seat in held], arc(setting, low, high, held))

    def test_lists_stay_and_results_are_new(self):
        setting = Setting(3, 1, 4)
        held = [7, 2, 0, 5, 1]
        first_from(setting, 3, held)
        for low, high in ((2, 2), (6, 2), (3, 4)):
            result = arc(setting, low, high, held)
            result.append(99)
            self.assertEqual([7, 2, 0, 5, 1], held)
            self.assertEqual(result[:-1], arc(setting, low, high, held))
