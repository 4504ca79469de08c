"""The call read: right legs' texts, and by which line a wrong one is told."""

from tests.helper import ABC, LEG, STARTED, Case, agree, burn, deal, last, legs, make, market, read, run, swap

WRONG = "a gives 0 x to b\n"
RICH = [ABC, make(0, 0, 999999999), make(1, 1, 999999999)]


class Right(Case):
    def test_answer(self):
        self.unchanged(STARTED, read("a gives 3 x to b\n"), [0, 1, 1, 2, 1])
        self.unchanged(STARTED, read("a gives 4 x to b\n"), [0, 1, 1, 2, 0])
        self.unchanged(STARTED, read("a gives 3 x to b\nb gives 6 y to c\n"), [0, 1, 2, 3, 1])

    def test_how_many_legs(self):
        for many in range(1, 13):
            self.assertEqual(last(ABC, make(0, 0, 12), read(LEG * many)), [0, 1, many, 2, 1])
        self.assertEqual(last(ABC, make(0, 0, 11), read(LEG * 12)), [0, 1, 12, 2, 0])

    def test_how_many_parties(self):
        self.assertEqual(last(ABC, read("a gives 1 x to b\nb gives 1 x to a\n")), [0, 1, 2, 2, 1])
        self.assertEqual(last(ABC, read("a gives 1 x to b\nb gives 1 x to c\nc gives 1 x to a\n")), [0, 1, 3, 3, 1])
        owners = ["o" + sign for sign in "abcdefgh"]
        text = "".join(["%s gives 1 x to %s\n" % (owners[place - 1], owners[place]) for place in range(8)])
        eight = market("".join(["owner %s\n" % name for name in owners]) + "good x\n")
        self.assertEqual(last(eight, read(text)), [0, 1, 8, 8, 1])
        text = "".join(["oa gives 1 x to %s\n" % name for name in owners[4:]])
        self.assertEqual(last(eight, make(0, 0, 4), read(text)), [0, 1, 4, 5, 1])

    def test_what_they_get_counts(self):
        """Not as with a deal's could: b passes on what comes."""
        text = "b gives 5 x to c\na gives 5 x to b\n"
        self.assertEqual(last(ABC, make(0, 0, 5), read(text)), [0, 1, 2, 3, 1])
        self.assertEqual(last(ABC, make(0, 0, 4), read(text)), [0, 1, 2, 3, 0])

    def test_just_enough(self):
        calls = [ABC, make(0, 0, 5), make(1, 0, 1)]
        self.assertEqual(last(*calls, read("a gives 6 x to b\nb gives 1 x to a\n")), [0, 1, 2, 2, 1])
        self.assertEqual(last(*calls, read("a gives 7 x to b\nb gives 1 x to a\n")), [0, 1, 2, 2, 0])

    def test_each_good_and_each_owner(self):
        calls = [ABC, make(0, 0, 5), make(2, 1, 5)]
        self.assertEqual(last(*calls, read("a gives 5 x to b\na gives 1 y to b\n")), [0, 1, 2, 2, 0])
        self.assertEqual(last(*calls, read("a gives 5 x to b\nc gives 6 y to b\n")), [0, 1, 2, 3, 0])
        self.assertEqual(last(*calls, read("a gives 5 x to b\nc gives 5 y to b\n")), [0, 1, 2, 3, 1])

    def test_held_is_not_free(self):
        calls = [ABC, make(0, 0, 5), deal(0, "a gives 4 x to b\n"), agree(1, 0)]
        self.assertEqual(last(*calls, read("a gives 1 x to b\n")), [0, 1, 1, 2, 1])
        self.assertEqual(last(*calls, read("a gives 2 x to b\n")), [0, 1, 1, 2, 0])

    def test_as_swap(self):
        """It could be made just where swap makes it."""
        for amount in (1, 8, 9, 10, 999999999):
            calls = [ABC, make(0, 0, 10), burn(0, 0, 1)]
            text = "a gives %d x to b\n" % amount
            self.assertEqual(run(*calls, read(text), swap(text))[-2:],
                             [[0, 1, 1, 2, 1], [0]] if amount < 10 else [[0, 1, 1, 2, 0], [-4]])

    def test_amounts(self):
        for amount in ("1", "9", "10", "100000000", "999999999"):
            self.assertEqual(last(*RICH, read("a gives %s x to b\n" % amount)), [0, 1, 1, 2, 1])
        many = legs(*["a gives 999999999 x to b"] * 6 + ["b gives 999999999 x to a"] * 6)
        self.assertEqual(last(ABC, read(many)), [0, 1, 12, 2, 1])

    def test_blanks(self):
        self.assertEqual(last(*RICH, read("  a   gives 1  x to    b \n")), [0, 1, 1, 2, 1])
        text = "a gives 1 x to b" + " " * 583 + "\n"
        self.assertEqual(len(text), 600)
        self.assertEqual(last(*RICH, read(text)), [0, 1, 1, 2, 1])


class Wrong(Case):
    def told(self, text, line):
        self.assertEqual(last(*RICH, read(text)), [0, 0, line], text)

    def test_changes_nothing(self):
        for text, line in (("", 1), (WRONG, 1), (LEG + WRONG, 2), (LEG * 13, 13), (LEG * 2 + "a", 3)):
            self.unchanged(STARTED, read(text), [0, 0, line])

    def test_new_line(self):
        """Without owners and goods each line is wrong."""
        self.assertEqual(run(read(""), read(LEG), read(LEG * 3), read(LEG * 13), read(LEG + "a")),
                         [[0, 0, 1], [0, 0, 1], [0, 0, 1], [0, 0, 13], [0, 0, 2]])
        self.assertEqual(last(market("owner a\nowner b\n"), read(LEG)), [0, 0, 1])
        self.assertEqual(last(market("good x\n"), read(LEG)), [0, 0, 1])

    def test_empty(self):
        self.told("", 1)

    def test_not_ended(self):
        self.told("a", 1)
        self.told(" ", 1)
        self.told("a gives 1 x to b", 1)
        self.told(LEG + "a gives 1 x to b", 2)
        self.told(LEG + " ", 2)
        self.told(LEG * 11 + "a gives 1 x to b", 12)

    def test_not_ended_whatever_stands_before(self):
        self.told(WRONG + "a gives 1 x to b", 2)
        self.told(WRONG * 3 + LEG + "?", 5)
        self.told("\n\n\n ", 4)
        self.told(LEG * 12 + "a", 13)
        self.told(LEG * 13 + "a", 14)
        self.told(LEG * 20 + " ", 21)
        self.told("\n" * 599 + "a", 600)

    def test_too_many_lines_whatever_they_are(self):
        self.told(LEG * 13, 13)
        self.told(LEG * 14, 13)
        self.told(LEG * 35, 13)
        self.told(WRONG * 13, 13)
        self.told(WRONG + LEG * 12, 13)
        self.told(LEG * 12 + WRONG, 13)
        self.told(LEG * 12 + "\n", 13)
        self.told("\n" * 13, 13)
        self.told("\n" * 600, 13)

    def test_twelve_lines(self):
        self.told("\n" * 12, 1)
        self.told(LEG * 11 + "\n", 12)
        self.told(LEG * 11 + WRONG, 12)

    def test_first_wrong_line(self):
        for many in range(1, 13):
            for place in range(many):
                self.told(LEG * place + WRONG + LEG * (many - 1 - place), place + 1)

    def test_first_of_several_wrong_lines(self):
        self.told(WRONG + LEG + WRONG, 1)
        self.told(LEG + WRONG + "\n" + LEG + WRONG, 2)
        self.told(LEG * 2 + "\n" + WRONG, 3)
        self.told(LEG * 10 + WRONG * 2, 11)
        self.told(LEG * 5 + WRONG * 7, 6)

    def test_each_way_to_be_wrong(self):
        for line in ("", "  ", "a gives 1 x to a", "d gives 1 x to b", "a gives 1 x to d", "a gives 1 z to b",
                     "a gives 1 b to c", "x gives 1 x to b", "a gives 0 x to b", "a gives 01 x to b",
                     "a gives 1000000000 x to b", "a gives -1 x to b", "a gives x to b", "a takes 1 x to b",
                     "a gives 1 x for b", "a gives 1 x to b c", "a gives 1 x to", "a gives 1\tx to b",
                     "A gives 1 x to b", "a gives 1x to b", "a gives 1 x to b\r", "a gives 1 x to b\0",
                     "a gives 1 x to \xff"):
            self.told(line + "\n", 1)
            self.told(LEG + line + "\n" + LEG, 2)
            self.told(LEG * 11 + line + "\n", 12)

    def test_every_byte_behind_a_line(self):
        """Of all bytes a blank alone is no wrong sign; a byte 10 begins one more line."""
        for byte in range(256):
            text = list((LEG + "a gives 1 x to b").encode()) + [byte, 10]
            expected = [0, 1, 2, 2, 1] if byte == 32 else [0, 0, 3 if byte == 10 else 2]
            self.assertEqual(last(*RICH, read(text)), expected)

    def test_every_byte_as_the_last(self):
        for byte in range(256):
            text = list(LEG.encode()) * 2 + [byte]
            self.assertEqual(last(*RICH, read(text)), [0, 0, 3])

    def test_longest(self):
        self.told(" " * 600, 1)
        self.told(LEG + "a" * 583, 2)
        self.told(LEG + " " * 582 + "\n", 2)

    def test_names_of_an_earlier_market(self):
        self.assertEqual(last(*RICH, market("owner d\nowner e\ngood z\n"), read("d gives 1 z to e\n" + LEG)), [0, 0, 2])
