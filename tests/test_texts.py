"""A market's text and legs' text: which are right and which are wrong."""

from tests.helper import ABC, Case, account, deal, last, legs, make, market, run, swap

EIGHT_OWNERS = "".join(["owner o%s\n" % sign for sign in "abcdefgh"])
SIX_GOODS = "".join(["good g%s\n" % sign for sign in "abcdef"])


class MarketText(Case):
    def right(self, text, owners, goods):
        self.assertEqual(last(ABC, market(text)), [0, owners, goods])

    def wrong(self, text):
        before = [ABC, make(0, 0, 5), make(1, 1, 6), deal(3, "a gives 5 x to b\nb gives 6 y to c\n")]
        self.refused(before, market(text), -2)
        self.refused([], market(text), -2)

    def test_ordinary(self):
        self.right("owner ann\ngood corn\nowner bob\n", 2, 1)
        self.right("good corn\n", 0, 1)
        self.right("owner ann\n", 1, 0)

    def test_empty(self):
        self.right("", 0, 0)
        self.assertEqual(last(market("")), [0, 0, 0])

    def test_blanks(self):
        self.right("  owner   ann  \ngood    corn\n owner bob\nowner cid \n", 3, 1)
        self.wrong("owner an n\n")
        self.wrong("ownerann\n")

    def test_blank_lines(self):
        for text in ("\n", " \n", "owner d\n\n", "\nowner d\n", "owner d\n  \ngood z\n", "owner d\n\ngood z\n"):
            self.wrong(text)

    def test_words(self):
        for text in ("owner\n", "good\n", "ann\n", "owner d e\n", "owners d\n", "goods z\n", "Owner d\n",
                     "GOOD z\n", "d owner\n", "own d\n", "owner d good z\n"):
            self.wrong(text)

    def test_name_lengths(self):
        self.right("owner a\ngood b\n", 1, 1)
        self.right("owner abcdefgh\ngood stuvwxyz\n", 1, 1)
        self.wrong("owner \n")
        self.wrong("good  \n")
        self.wrong("owner abcdefghi\n")
        self.wrong("good abcdefghi\n")

    def test_names_that_are_words_of_the_text(self):
        self.right("owner owner\ngood good\nowner gives\ngood to\n", 2, 2)
        text = "owner gives 1 good to gives\n"
        self.assertEqual(last(market("owner owner\ngood good\nowner gives\n"), deal(0, text)), [0, 1, 2])

    def test_name_twice(self):
        self.wrong("owner d\nowner d\n")
        self.wrong("good z\ngood z\n")
        self.wrong("owner d\ngood d\n")
        self.wrong("good d\nowner d\n")
        self.wrong("owner d\nowner e\ngood z\ngood f\nowner z\n")

    def test_how_many_owners(self):
        self.right(EIGHT_OWNERS, 8, 0)
        self.wrong(EIGHT_OWNERS + "owner oi\n")
        self.wrong(EIGHT_OWNERS + SIX_GOODS + "owner oi\n")

    def test_how_many_goods(self):
        self.right(SIX_GOODS, 0, 6)
        self.right(EIGHT_OWNERS + SIX_GOODS, 8, 6)
        self.right(SIX_GOODS + EIGHT_OWNERS, 8, 6)
        self.wrong(SIX_GOODS + "good gg\n")
        self.wrong(SIX_GOODS + EIGHT_OWNERS + "good gg\n")

    def test_end(self):
        self.wrong("owner d")
        self.wrong("owner d\ngood z")
        self.wrong("owner d\n ")
        self.wrong(" ")
        self.wrong("z")

    def test_no_letters(self):
        for byte in range(256):
            if not 97 <= byte <= 122:
                self.assertEqual(last(market([111, 119, 110, 101, 114, 32, 97, byte, 98, 10])), [-2])
                if byte not in (10, 32):
                    self.assertEqual(last(market([111, 119, 110, 101, 114, 32, byte, 10])), [-2])
                    self.assertEqual(last(market([111, 119, 110, 101, 114, byte, 97, 10])), [-2])
                    self.assertEqual(last(market([byte, 111, 119, 110, 101, 114, 32, 97, 10])), [-2])

    def test_all_letters(self):
        for byte in range(97, 123):
            self.assertEqual(last(market([103, 111, 111, 100, 32, byte, 10])), [0, 0, 1])

    def test_numbers_by_lines(self):
        """Owners and goods are numbered each for themselves, in the order of their lines."""
        text = market("good y\nowner b\ngood x\nowner a\n")
        calls = [text, make(0, 0, 5), make(1, 1, 7), swap("b gives 2 y to a\na gives 3 x to b\n")]
        self.accounts(calls, (3, 0, 3, 0), (2, 0, 4, 0))

    def test_longest(self):
        text = "owner a" + " " * 592 + "\n"
        self.assertEqual(len(text), 600)
        self.right(text, 1, 0)


class LegsText(Case):
    before = [ABC, make(0, 0, 999999999), make(1, 1, 6)]

    def right(self, text, parties):
        self.assertEqual(last(*self.before, deal(0, text)), [0, 1, parties])

    def wrong(self, text):
        self.refused(self.before, deal(0, text), -2)
        self.refused(self.before, swap(text), -2)

    def test_ordinary(self):
        self.right("a gives 1 x to b\n", 2)
        self.right("a gives 1 x to b\nb gives 20 y to a\n", 2)
        self.right("a gives 1 x to b\nc gives 1 x to b\n", 3)

    def test_empty(self):
        self.wrong("")

    def test_end(self):
        self.wrong("a gives 1 x to b")
        self.wrong("a gives 1 x to b\nb gives 20 y to a")
        self.wrong("a gives 1 x to b\n ")

    def test_blanks(self):
        self.right("  a  gives   1 x    to  b   \n", 2)
        self.wrong("a gives 1x to b\n")
        self.wrong("a gives 1 x tob\n")
        self.wrong("agives 1 x to b\n")
        self.wrong("a gi ves 1 x to b\n")
        self.wrong("a gives 1 0 x to b\n")

    def test_blank_lines(self):
        for text in ("\n", " \n", "a gives 1 x to b\n\n", "\na gives 1 x to b\n",
                     "a gives 1 x to b\n  \na gives 1 x to b\n"):
            self.wrong(text)

    def test_words(self):
        for text in ("a gives 1 x to\n", "a gives 1 x b\n", "gives 1 x to b\n", "a 1 x to b\n", "a gives x to b\n",
                     "a gives 1 to b\n", "a gives 1 x to b c\n", "a give 1 x to b\n", "a gives 1 x too b\n",
                     "a to 1 x gives b\n", "a Gives 1 x to b\n", "a gives x 1 to b\n", "owner a gives 1 x to b\n",
                     "a gives 1 x to b b gives 1 y to a\n"):
            self.wrong(text)

    def test_how_many(self):
        leg = "a gives 1 x to b\n"
        self.right(leg * 12, 2)
        self.wrong(leg * 13)
        self.assertEqual(last(*self.before, swap(leg * 12)), [0])

    def test_one_wrong_line_among_right_ones(self):
        leg = "a gives 1 x to b\n"
        for place in range(3):
            self.wrong(leg * place + "a gives 0 x to b\n" + leg * (2 - place))

    def test_amounts(self):
        for amount in ("1", "9", "10", "999999999", "100000000"):
            self.right("a gives %s x to b\n" % amount, 2)
        for amount in ("0", "00", "01", "007", "0999999999", "000000001", "1000000000", "9999999999", "-1", "+1", "1.0",
                       "1_0", "1e3", "one", "x", "a1", "1a", "0x1", "99999999999999999999999"):
            self.wrong("a gives %s x to b\n" % amount)

    def test_amounts_are_read_as_they_stand(self):
        for amount in (1, 9, 10, 123456789, 999999999):
            calls = self.before + [swap("a gives %d x to b\n" % amount)]
            self.accounts(calls, (999999999 - amount, 0, 0, 0), (amount, 0, 6, 0))

    def test_to_the_same_owner(self):
        self.wrong("a gives 1 x to a\n")
        self.wrong("a gives 1 x to b\nb gives 1 y to b\n")

    def test_unknown_names(self):
        for text in ("d gives 1 x to b\n", "a gives 1 x to d\n", "a gives 1 z to b\n", "a gives 1 b to c\n",
                     "x gives 1 y to b\n", "a gives 1 x to y\n", "aa gives 1 x to b\n", "A gives 1 x to b\n",
                     "0 gives 1 x to 1\n", "a gives 1 0 to b\n"):
            self.wrong(text)

    def test_names_of_an_earlier_market(self):
        self.assertEqual(last(ABC, market("owner d\nowner e\ngood z\n"), deal(0, "a gives 1 x to b\n")), [-2])
        self.assertEqual(last(ABC, market("owner d\nowner e\ngood z\n"), deal(0, "d gives 1 z to e\n")), [0, 1, 2])

    def test_without_a_market(self):
        self.assertEqual(run(deal(0, "a gives 1 x to b\n"), swap("a gives 1 x to b\n")), [[-2], [-2]])

    def test_other_bytes(self):
        leg = list(b"a gives 1 x to b\n")
        for byte in range(256):
            for place in range(len(leg)):
                changed = list(leg)
                changed[place] = byte
                right = changed == leg or self.still_right(place, byte)
                answer = last(*self.before, deal(0, changed))
                self.assertEqual(answer, [0, 1, 2] if right else [-2], changed)

    def still_right(self, place, byte):
        """The one leg with a byte changed is right with another name or another digit alone."""
        return (place, byte) in [(0, ord("c")), (10, ord("y")), (15, ord("c"))] + [
            (8, digit) for digit in range(ord("1"), ord("9") + 1)]

    def test_byte_beside_a_blank(self):
        for byte in range(256):
            if byte != 32:
                text = list(b"a gives 1 x to b") + [byte] + [10]
                self.assertEqual(last(*self.before, deal(0, text)), [-2])
        self.assertEqual(last(*self.before, deal(0, list(b"a gives 1\tx to b\n"))), [-2])

    def test_longest(self):
        text = "a gives 1 x to b" + " " * 583 + "\n"
        self.assertEqual(len(text), 600)
        self.right(text, 2)

    def test_longest_names(self):
        self.assertEqual(last(market("owner abcdefgh\nowner bcdefghi\ngood cdefghij\n"),
                              deal(0, legs("abcdefgh gives 5 cdefghij to bcdefghi"))), [0, 1, 2])

    def test_wrong_text_gives_no_number_away(self):
        found = run(*self.before, deal(0, ""), deal(0, "a gives 1 x to b\n"), account(0))
        self.assertEqual(found[-3:], [[-2], [0, 1, 2], [0, 999999999, 0, 0, 0]])
