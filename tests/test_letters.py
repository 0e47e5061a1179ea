"""Points 10 and 11: the letters and what they tell."""

from livingroll import letters
from livingroll.letters import Answer, Ask, Letter, Probe, Probed, Sums
from tests.helpers import Case

SAYINGS = [(0, 1, "alive", ""), (5, 2, "dead", "ab"), (0, 1, "alive", "")]
SUMS = [(0, 8, 5, 10, 20), (4, 4, 0, 0, 10 ** 80 - 1)]
PLAIN = (Letter, Ask, Answer)


def one_of_each(sayings):
    """Return a letter of each class, with what its class adds."""
    return [
        (Letter(0, 5, 7, 3, sayings), ()),
        (Ask(0, 5, 7, 3, sayings), ()),
        (Answer(0, 5, 7, 3, sayings), ()),
        (Probe(0, 5, 7, 3, sayings, 6), (6,)),
        (Probed(0, 5, 7, 3, sayings, 6, True), (6, True)),
        (Probed(0, 5, 7, 3, sayings, 6, False), (6, False)),
        (Sums(0, 5, 7, 3, sayings, SUMS, 2, True), (tuple(SUMS), 2, True)),
        (Sums(0, 5, 7, 3, sayings, SUMS, 2, False), (tuple(SUMS), 2, False)),
    ]


class Kinds(Case):
    def test_kind_of_each_class(self):
        classes = (Letter, Ask, Answer, Probe, Probed, Sums)
        self.assertEqual(["", "ask", "answer", "probe", "probed", "sums"], [one.KIND for one in classes])
        kinds = [letter.KIND for letter, _ in one_of_each([])]
        self.assertEqual(["", "ask", "answer", "probe", "probed", "probed", "sums", "sums"], kinds)

    def test_letter_is_the_base_of_the_others_and_they_are_apart(self):
        others = (Ask, Answer, Probe, Probed, Sums)
        for one in others:
            self.assertTrue(issubclass(one, Letter))
            for other in others:
                self.assertEqual(one is other, issubclass(one, other))

    def test_each_class_has_its_methods_in_its_own_body(self):
        for name in ("Letter", "Ask", "Answer", "Probe", "Probed", "Sums"):
            body = vars(getattr(letters, name))
            self.assertEqual([True] * 4, [word in body for word in ("KIND", "size", "head", "parts")])
            self.assertIsInstance(body["size"], property)


class Attributes(Case):
    def test_attributes_of_all(self):
        for letter, _ in one_of_each(SAYINGS):
            with self.subTest(kind=letter.KIND):
                self.assertEqual((0, 5, 7, 3), (letter.sender, letter.receiver, letter.beat, letter.number))
                self.assertEqual(SAYINGS, letter.sayings)
                self.assertIsInstance(letter.sayings, list)

    def test_attributes_of_probes(self):
        for about in (0, 5, 6):
            self.assertEqual(about, Probe(0, 5, 7, 3, [], about).about)
            for reached in (True, False):
                letter = Probed(0, 5, 7, 3, [], about, reached)
                self.assertEqual(about, letter.about)
                self.assertIs(reached, letter.reached)

    def test_attributes_of_sums(self):
        for more in (True, False):
            letter = Sums(0, 5, 7, 3, [], SUMS, 2, more)
            self.assertEqual(SUMS, letter.sums)
            self.assertIsInstance(letter.sums, list)
            self.assertEqual(2, letter.position)
            self.assertIs(more, letter.more)


class Told(Case):
    def test_size(self):
        for letter in (kind(0, 5, 7, 3, SAYINGS[:many]) for kind in PLAIN for many in range(4)):
            self.assertEqual(len(letter.sayings), letter.size)
        self.assertEqual([0, 3], [Probe(0, 5, 7, 3, some, 6).size for some in ([], SAYINGS)])
        self.assertEqual([0, 3], [Probed(0, 5, 7, 3, some, 6, True).size for some in ([], SAYINGS)])
        pairs = [([], []), (SAYINGS, []), ([], SUMS), (SAYINGS, SUMS)]
        self.assertEqual([0, 3, 2, 5], [Sums(0, 5, 7, 3, *pair, 0, True).size for pair in pairs])

    def test_head(self):
        heads = [letter.head() for letter, _ in one_of_each(SAYINGS)]
        common = ["0", "5", "7", "3"]
        self.assertEqual([
            ["", *common],
            ["ask", *common],
            ["answer", *common],
            ["probe", *common, "6"],
            ["probed", *common, "6", "yes"],
            ["probed", *common, "6", "no"],
            ["sums", *common, "2", "more"],
            ["sums", *common, "2", "last"],
        ], heads)

    def test_head_of_long_numbers(self):
        most = 10 ** 60 - 1
        self.assertEqual(["ask", "255", "0", "9" * 60, "9" * 60], Ask(255, 0, most, most, []).head())
        self.assertEqual(["sums", "1", "0", "0", "0", "999999", "last"], Sums(1, 0, 0, 0, [], [], 999999, False).head())

    def test_parts(self):
        for some in ([], SAYINGS):
            for letter, added in one_of_each(some):
                with self.subTest(kind=letter.KIND):
                    parts = letter.parts()
                    self.assertIsInstance(parts, tuple)
                    self.assertEqual((letter.KIND, 0, 5, 7, 3, tuple(some), *added), parts)
                    self.assertEqual([one.__class__ for one in added], [one.__class__ for one in parts[6:]])

    def test_parts_tell_sender_receiver_beat_and_number_apart(self):
        self.assertEqual(("ask", 1, 2, 3, 4, ()), Ask(1, 2, 3, 4, []).parts())
        self.assertEqual(("sums", 1, 2, 3, 4, (), (), 5, False), Sums(1, 2, 3, 4, [], [], 5, False).parts())


class Copies(Case):
    def test_a_list_that_was_passed_is_changed_later(self):
        for at in range(8):
            sayings = list(SAYINGS)
            letter = one_of_each(sayings)[at][0]
            before = letter.parts()
            sayings.append((1, 1, "left", ""))
            del sayings[0]
            self.assertEqual(SAYINGS, letter.sayings)
            self.assertEqual(before, letter.parts())

    def test_sums_that_were_passed_are_changed_later(self):
        sums = list(SUMS)
        letter = Sums(0, 5, 7, 3, [], sums, 2, True)
        sums.clear()
        self.assertEqual(SUMS, letter.sums)
        self.assertEqual(2, letter.size)
        self.assertEqual(tuple(SUMS), letter.parts()[6])

    def test_a_head_that_was_returned_is_changed(self):
        for letter, _ in one_of_each(SAYINGS):
            head = letter.head()
            before = list(head)
            head[0] = "other"
            head.append("more")
            self.assertEqual(before, letter.head())
