"""Points 12, 13 and 14: the written form of letters."""

import random

from livingroll.errors import InvalidLetter
from livingroll.letters import Answer, Ask, Probe, Probed, Sums
from livingroll.setting import Setting
from livingroll.wire import format_letter, parse_letter
from tests.helpers import NO_TEXTS, Case

SETTING = Setting(3, 2, 4)
SAYINGS = [(0, 1, "alive", ""), (5, 12, "dead", "ab")]
SUMS = [(0, 8, 5, 10, 20), (4, 4, 0, 0, 10 ** 80 - 1)]
ITEMS = "= 0 1 alive -|= 5 12 dead ab"
SUM_ITEMS = f"+ 0 8 5 10 20|+ 4 4 0 0 {'9' * 80}"
MOST = 10 ** 60 - 1


def seal(body):
    """Return a text with its right check, told by the words of point 12 once more."""
    text = body + "|"
    total = 0
    for index in range(len(text)):
        total += (index + 1) * ord(text[index])
    return text + str(total % 99991).rjust(5, "0")


def letters_of_all_classes(sayings, sums):
    return [
        Ask(0, 5, 7, 3, sayings),
        Answer(5, 0, 0, 0, sayings),
        Probe(7, 0, MOST, MOST, sayings, 0),
        Probed(1, 2, 10, 9, sayings, 7, True),
        Probed(1, 2, 10, 9, sayings, 2, False),
        Sums(3, 4, 10, 9, sayings, sums, 0, True),
        Sums(3, 4, 10, 9, sayings, sums, 999999, False),
    ]


class Format(Case):
    def test_heads_without_items(self):
        bodies = [
            "ask 0 5 7 3",
            "answer 5 0 0 0",
            f"probe 7 0 {MOST} {MOST} 0",
            "probed 1 2 10 9 7 yes",
            "probed 1 2 10 9 2 no",
            "sums 3 4 10 9 0 more",
            "sums 3 4 10 9 999999 last",
        ]
        self.assertEqual([seal(body) for body in bodies], [format_letter(one) for one in letters_of_all_classes([], [])])

    def test_sayings(self):
        for letter, bare in zip(letters_of_all_classes(SAYINGS, []), letters_of_all_classes([], [])):
            with self.subTest(kind=letter.KIND):
                self.assertEqual(seal(format_letter(bare)[:-6] + "|" + ITEMS), format_letter(letter))

    def test_sums(self):
        self.assertEqual(seal("sums 3 4 1 2 0 more|" + SUM_ITEMS), format_letter(Sums(3, 4, 1, 2, [], SUMS, 0, True)))
        letter = Sums(3, 4, 1, 2, SAYINGS, SUMS, 0, True)
        self.assertEqual(seal("sums 3 4 1 2 0 more|" + ITEMS + "|" + SUM_ITEMS), format_letter(letter))

    def test_checks_that_were_counted_by_hand(self):
        # 97 + 2 * 115 + 3 * 107 + 4 * 32 + 5 * 48 + ... + 12 * 124 with the signs of "ask 0 1 0 0|"
        total = 97 + 2 * 115 + 3 * 107 + 4 * 32 + 5 * 48 + 6 * 32 + 7 * 49 + 8 * 32 + 9 * 48 + 10 * 32 + 11 * 48 + 12 * 124
        self.assertEqual(4575, total)
        self.assertEqual("ask 0 1 0 0|04575", format_letter(Ask(0, 1, 0, 0, [])))

    def test_the_check_is_a_remainder(self):
        letter = Sums(3, 4, MOST, MOST, SAYINGS * 2, SUMS, 0, True)
        text = format_letter(letter)
        total = sum((index + 1) * ord(sign) for index, sign in enumerate(text[:-5]))
        self.assertGreater(total, 2 * 99991)
        self.assertEqual(total % 99991, int(text[-5:]))


class ThereAndBack(Case):
    def test_letters_of_all_classes(self):
        for sayings in ([], SAYINGS[:1], SAYINGS, SAYINGS * 2, SAYINGS * 3):
            for sums in ([], SUMS[:1], SUMS):
                for letter in letters_of_all_classes(sayings, sums):
                    if letter.size <= SETTING.room + 2:
                        self.assert_comes_back(SETTING, letter)

    def test_ends_of_each_number(self):
        for bits in (1, 8):
            last = 2 ** bits - 1
            setting = Setting(bits, 1, 64)
            sayings = [(last, MOST, "left", "abcdefghijkl"), (0, 0, "suspect", "")]
            sums = [(0, 2 ** bits, 0, 0, 0), (last, 1, 10 ** 80 - 1, 0, 10 ** 80 - 1), (last - 1, 2, 1, 2, 3)]
            for letter in (
                Ask(last, 0, MOST, 0, sayings),
                Answer(0, last, 0, MOST, sayings),
                Probe(last, 0, 0, 0, [], last),
                Probed(last, 0, 0, 0, [], 0, True),
                Sums(last, 0, 0, 0, sayings, sums, 999999, True),
            ):
                self.assert_comes_back(setting, letter)

    def test_widths_and_lows(self):
        for power in range(4):
            width = 2 ** power
            for low in range(0, 8, width):
                self.assert_comes_back(SETTING, Sums(0, 1, 0, 0, [], [(low, width, 0, 1, 2)], 0, False))

    def test_a_new_letter_is_returned(self):
        letter = Sums(3, 4, 1, 2, SAYINGS, SUMS, 0, True)
        text = format_letter(letter)
        one, other = parse_letter(SETTING, text), parse_letter(SETTING, text)
        one.sayings.clear()
        one.sums.clear()
        self.assertEqual(letter.parts(), other.parts())
        self.assertEqual(letter.parts(), parse_letter(SETTING, text).parts())

    def assert_comes_back(self, setting, letter):
        again = parse_letter(setting, format_letter(letter))
        with self.subTest(parts=letter.parts()):
            self.assertIs(letter.__class__, again.__class__)
            self.assertIsNot(letter, again)
            self.assertEqual(letter.parts(), again.parts())
            self.assertEqual([one.__class__ for one in letter.parts()], [one.__class__ for one in again.parts()])
            self.assertEqual([tuple] * again.size, [item.__class__ for item in again.sayings + getattr(again, "sums", [])])
            self.assertEqual(format_letter(letter), format_letter(again))


class Refusing(Case):
    """Each test gives bodies, which get their right check."""

    def refused(self, reason, text, setting=SETTING):
        with self.subTest(text=str(text)[:70]):
            self.assert_refused(InvalidLetter, reason, parse_letter, setting, text)

    def test_values_that_are_no_string(self):
        for value in (*NO_TEXTS, b"ask 0 1 0 0|04575", ["ask 0 1 0 0|04575"], Ask(0, 1, 0, 0, [])):
            self.refused("text", value)

    def test_the_longest_text(self):
        for body, reason in (("ask", "head"), ("ask 0 1 0 0|", "item"), ("ask 0 1 0 0|= 0 1 alive -", "item")):
            self.refused(reason, seal(body.ljust(89994, "x")))
            self.refused("text", seal(body.ljust(89995, "x")))
        self.assertEqual([90000, 90001], [len(seal("x" * 89994)), len(seal("x" * 89995))])
        self.refused("check", "x" * 90000)
        self.refused("text", "x" * 90001)

    def test_short_texts(self):
        for text in ("", "a", "|", "00000", "|0000", "04575", "     "):
            self.refused("check", text)
        self.refused("check", "|00000")
        self.refused("head", "|00124")
        self.refused("head", seal(""))

    def test_wrong_and_unpadded_checks(self):
        good = "ask 0 1 0 0|04575"
        self.assertEqual(("ask", 0, 1, 0, 0, ()), parse_letter(SETTING, good).parts())
        for check in ("04576", "04574", "14575", "4575", "004575", "4575 ", " 4575", "+4575", "04575 ", "04575\n", ""):
            self.refused("check", "ask 0 1 0 0|" + check)
        for text in ("ask 0 1 0 0", "ask 0 1 0 004575", "ask 0 1 0 0 04575", "04575|ask 0 1 0 0", good + "|", " " + good):
            self.refused("check", text)
        for rest in ("ask 0 1 0 0", "ask 0 1 0 0 ", "ask 0 1 0 0|= 0 1 alive -", "ask 0 1 0 0|0", ""):
            total = sum((index + 1) * ord(sign) for index, sign in enumerate(rest))
            self.refused("check", rest + str(total % 99991).rjust(5, "0"))
        self.refused("check", "ask 0 1 0 0|\uff10\uff14\uff15\uff17\uff15")
        self.refused("check", "ask 0 1 0 0|\u0660\u0664\u0665\u0667\u0665")

    def test_kinds(self):
        for kind in ("", "Ask", "asks", "letter", "ask ", "probes", "sum", "-", "0", "|"):
            self.refused("head", seal(f"{kind} 0 1 0 0"))

    def test_words_of_the_head(self):
        heads = {
            "ask 0 1 0 0": 5, "answer 0 1 0 0": 5, "probe 0 1 0 0 2": 6,
            "probed 0 1 0 0 2 yes": 7, "sums 0 1 0 0 2 more": 7,
        }
        for head in heads:
            words = head.split(" ")
            parse_letter(SETTING, seal(head))
            for more in ("0", "yes", "more", "last", ""):
                self.refused("head", seal(head + " " + more))
            for at in range(len(words)):
                self.refused("head", seal(" ".join(words[:at] + words[at + 1:])))
                self.refused("head", seal(" ".join(words[:at] + [""] + words[at:])))
                self.refused("head", seal(" ".join(words[:at] + [""] + words[at + 1:])))
        for head in ("ask 0 1 0 0 2", "probe 0 1 0 0", "probe 0 1 0 0 2 yes", "probed 0 1 0 0 2", "sums 0 1 0 0 2", ""):
            self.refused("head", seal(head))
        for head in (" ask 0 1 0 0", "ask 0 1 0 0 ", "ask\t0 1 0 0", "ask 0 1 0 0\n", "ask,0,1,0,0"):
            self.refused("head", seal(head))

    def test_seats_of_the_head(self):
        for kind, rest in (("ask", ""), ("answer", ""), ("probe", " 2"), ("probed", " 2 no"), ("sums", " 2 last")):
            for seat in range(8):
                self.refused("head", seal(f"{kind} {seat} {seat} 0 0{rest}"))
            for seat in ("8", "9", "255", "1" * 61, "1" * 5000):
                self.refused("head", seal(f"{kind} {seat} 1 0 0{rest}"))
                self.refused("head", seal(f"{kind} 1 {seat} 0 0{rest}"))
        for head in ("probe 0 1 0 0 8", "probed 0 1 0 0 8 yes", f"probe 0 1 0 0 {'1' * 5000}"):
            self.refused("head", seal(head))

    def test_numbers_of_the_head(self):
        wrong = ("00", "01", "+1", "-1", "-0", "", "a", "1.0", "1_0", "0x1", "\u0661", "\u00b2", "\uff11", "None")
        for head in ("ask 0 1 0 0", "answer 0 1 0 0", "probe 0 1 0 0 2", "probed 0 1 0 0 2 yes", "sums 0 1 0 0 2 more"):
            words = head.split(" ")
            for at in range(1, min(6, len(words))):
                for number in wrong:
                    self.refused("head", seal(" ".join(words[:at] + [number] + words[at + 1:])))

    def test_digits_of_the_head(self):
        for digits in (60, 61, 80, 81, 5000):
            for body in (f"ask 0 1 {'9' * digits} 0", f"ask 0 1 0 {'9' * digits}"):
                if digits == 60:
                    self.assertIn(MOST, parse_letter(SETTING, seal(body)).parts())
                else:
                    self.refused("head", seal(body))
        self.assertEqual(999999, parse_letter(SETTING, seal("sums 0 1 0 0 999999 more")).position)
        for position in ("1000000", "1" * 60, "1" * 5000):
            self.refused("head", seal(f"sums 0 1 0 0 {position} more"))

    def test_last_words_of_the_head(self):
        for word in ("Yes", "y", "", "more", "last", "True", "yes no", "none", "0"):
            self.refused("head", seal(f"probed 0 1 0 0 2 {word}"))
        for word in ("More", "m", "", "yes", "no", "True", "more last", "0"):
            self.refused("head", seal(f"sums 0 1 0 0 2 {word}"))

    def test_wrong_items(self):
        for head in ("ask 0 1 0 0", "answer 0 1 0 0", "probe 0 1 0 0 2", "probed 0 1 0 0 2 yes", "sums 0 1 0 0 2 more"):
            for item in (
                "", " ", "=", "+", "= ", "+ ", "0 1 alive -", "=0 1 alive -", "=  0 1 alive -", " = 0 1 alive -",
                "= 0 1 alive", "= 0 1 alive - ", "= 8 1 alive -", "= 00 1 alive -", f"= 0 {'1' * 61} alive -",
                "= 0 1 alive -\n", "- 0 1 alive -", "= 0 1 dead A", "= 0 8 5 10 20", "+ 0 1 alive -", "= = 0 1 alive -",
            ):
                self.refused("item", seal(f"{head}|{item}"))
                self.refused("item", seal(f"{head}|{ITEMS}|{item}"))
                self.refused("item", seal(f"{head}|{item}|{ITEMS}"))

    def test_sums_in_letters_of_other_kinds(self):
        for head in ("ask 0 1 0 0", "answer 0 1 0 0", "probe 0 1 0 0 2", "probed 0 1 0 0 2 yes"):
            self.refused("item", seal(f"{head}|+ 0 8 5 10 20"))
            self.refused("item", seal(f"{head}|{ITEMS}|+ 0 8 5 10 20"))

    def test_other_signs_ahead_of_items(self):
        for kind in ("ask 0 1 0 0", "sums 0 1 0 0 2 more", "sums 0 1 0 0 2 more|+ 0 8 5 10 20"):
            for mark in ("- ", "x ", "++", "+  ", "=+", " +", "", "+", "=", "*", "=  ", "== ", "+= "):
                self.refused("item", seal(f"{kind}|{mark}0 8 5 10 20"))
                self.refused("item", seal(f"{kind}|{mark}0 1 alive -"))
            self.refused("item", seal(f"{kind}|= 0 8 5 10 20"))
            self.refused("item", seal(f"{kind}|+ 0 1 alive -"))

    def test_sayings_behind_a_sum(self):
        self.refused("item", seal("sums 0 1 0 0 2 more|+ 0 8 5 10 20|= 0 1 alive -"))
        self.refused("item", seal("sums 0 1 0 0 2 more|= 0 1 alive -|+ 0 8 5 10 20|= 0 1 alive -"))
        self.refused("item", seal("sums 0 1 0 0 2 more|+ 0 8 5 10 20|= 0 1 alive -|+ 0 8 5 10 20"))

    def test_ranges_of_sums(self):
        for low, width in (
            (0, 0), (0, 3), (0, 5), (0, 6), (0, 7), (0, 9), (0, 16), (8, 8), (4, 8), (1, 8), (2, 4), (6, 4), (8, 4),
            (1, 2), (7, 2), (8, 2), (8, 1), (16, 1), (16, 16), (16, 8), (1, 3), (3, 3), (6, 6), (0, 10 ** 70), (10 ** 70, 1),
        ):
            self.refused("item", seal(f"sums 0 1 0 0 2 more|+ {low} {width} 5 10 20"))
        self.refused("item", seal("sums 0 1 0 0 2 more|+ 0 4 5 10 20"), Setting(1, 1, 4))
        self.refused("item", seal("sums 0 1 0 0 2 more|+ 0 512 5 10 20"), Setting(8, 1, 4))

    def test_words_of_sums(self):
        for text in ("0 8 5 10", "0 8 5 10 20 30", "0 8 5 10 ", " 0 8 5 10 20", "0  8 5 10 20", "0 8 5 10 20 ", "0 8", "20"):
            self.refused("item", seal("sums 0 1 0 0 2 more|+ " + text))
        words = "4 2 5 10 20".split(" ")
        for at in range(5):
            for number in ("00", "02", "+2", "-2", "", "a", "-", "2.0", "\u0662", "\u00b2", "1" * 81, "1" * 5000):
                text = " ".join(words[:at] + [number] + words[at + 1:])
                self.refused("item", seal("sums 0 1 0 0 2 more|+ " + text))

    def test_digits_of_sums(self):
        for at in (2, 3, 4):
            words = ["4", "2", "0", "0", "0"]
            words[at] = "9" * 80
            parts = parse_letter(SETTING, seal("sums 0 1 0 0 2 more|+ " + " ".join(words))).parts()
            self.assertEqual(10 ** 80 - 1, parts[6][0][at])
            words[at] = "9" * 81
            self.refused("item", seal("sums 0 1 0 0 2 more|+ " + " ".join(words)))

    def test_size(self):
        for room in (1, 4, 64):
            setting = Setting(3, 2, room)
            for head in ("ask 0 1 0 0", "answer 0 1 0 0", "probe 0 1 0 0 2", "probed 0 1 0 0 2 yes", "sums 0 1 0 0 2 more"):
                most = seal(head + "|= 0 1 alive -" * (room + 2))
                self.assertEqual(room + 2, parse_letter(setting, most).size)
                self.refused("size", seal(head + "|= 0 1 alive -" * (room + 3)), setting)
            for many in (0, 1, room + 1):
                rows = "|= 0 1 alive -" * many + "|+ 0 8 1 2 3" * (room + 2 - many)
                self.assertEqual(room + 2, parse_letter(setting, seal("sums 0 1 0 0 2 more" + rows)).size)
                self.refused("size", seal("sums 0 1 0 0 2 more" + rows + "|+ 0 8 1 2 3"), setting)

    def test_several_reasons_at_once(self):
        many = "|= 0 1 alive -" * 9
        self.refused("text", "ask 0 0 0 0|wrong".ljust(90001, "|"))
        self.refused("check", "ask 0 0 0 0|item" + many + "|00000")
        self.refused("check", "ask 0 1 0 0" + many + "|00000")
        self.refused("check", "ask 0 1 0 0|item|00000")
        self.refused("head", seal("ask 0 0 0 0|item"))
        self.refused("head", seal("ask 0 0 0 0" + many))
        self.refused("head", seal("ask 0 1 0 0 7|item" + many))
        self.refused("item", seal("ask 0 1 0 0" + many + "|item"))
        self.refused("item", seal("ask 0 1 0 0|item" + many))
        self.refused("item", seal("ask 0 1 0 0" + many + "|+ 0 8 5 10 20"))
        self.refused("item", seal("sums 0 1 0 0 2 more|+ 0 8 1 2 3" + many))


class Damage(Case):
    """Point 14: what happens to a letter on its way is seen."""

    def test_one_sign_replaced(self):
        signs = [chr(code) for code in range(128)]
        for letter in (Ask(0, 5, 7, 3, SAYINGS), Sums(3, 4, 1, 2, SAYINGS[:1], SUMS[:1], 0, True)):
            text = format_letter(letter)
            for at in range(len(text)):
                for sign in signs:
                    if sign != text[at]:
                        self.assert_seen(text[:at] + sign + text[at + 1:])

    def test_one_sign_replaced_in_letters_of_all_classes(self):
        draw = random.Random(14)
        for letter in letters_of_all_classes(SAYINGS, SUMS):
            text = format_letter(letter)
            for at in range(len(text)):
                sign = draw.choice([one for one in "0123456789|=+ -az" if one != text[at]])
                self.assert_seen(text[:at] + sign + text[at + 1:])

    def test_two_signs_exchanged(self):
        for letter in letters_of_all_classes(SAYINGS[:1], SUMS[:1]):
            text = format_letter(letter)
            for low in range(len(text) - 5):
                for high in range(low + 1, len(text) - 5):
                    if text[low] != text[high]:
                        signs = list(text)
                        signs[low], signs[high] = text[high], text[low]
                        self.assert_seen("".join(signs))

    def assert_seen(self, text):
        with self.assertRaises(InvalidLetter, msg=text) as caught:
            parse_letter(SETTING, text)
        self.assertEqual("check", caught.exception.reason, text)
