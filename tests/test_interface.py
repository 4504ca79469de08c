"""answers(calls): how calls and answers are laid out, and that nothing is kept or changed."""

import contextlib
import io
import unittest

import ringmarket.trade
from ringmarket.trade import answers
from tests.helper import (ABC, account, agree, books, burn, cancel, could, deal, deals, lacks, legs_of, make, market,
                          move, names, parts, read, run, swap, tick, waits, withdraw)

FOR_Y = "a gives 5 x to b\nb gives 5 y to a\n"
ALL = [ABC, make(0, 0, 9), make(1, 1, 9), burn(0, 0, 2), deal(3, FOR_Y), deal(3, FOR_Y), deal(3, FOR_Y), agree(1, 0),
       agree(2, 1), agree(2, 0), agree(1, 1), agree(3, 0), withdraw(3, 0), cancel(3), swap("b gives 1 y to c\n"),
       deal(0, FOR_Y), tick(2), account(0), account(1), account(2), make(9, 0, 1), deal(0, ""), cancel(9),
       burn(0, 0, 900), make(0, 0, 1000000000), deal(7, FOR_Y), deal(8, "b gives  9 x to c\n"), agree(5, 1),
       agree(6, 1), move(1, 2, 0, 3), deals(), parts(5), legs_of(6), waits(), agree(6, 2), burn(1, 0, 2),
       deal(1, "c gives 3 x to a\n"), deal(1, "c gives 1 x to a\n"), agree(8, 2), agree(7, 2), waits(), books(),
       could(6), could(8), read(FOR_Y), read("c gives 2 x to a\n"), read(FOR_Y + "?"), move(2, 2, 0, 2),
       names(), lacks(7, 2), lacks(5, 0), parts(9), move(3, 0, 0, 1), move(0, 1, 1, 6), lacks(9, 9), lacks(9, 0), lacks(8, 1)]


class Watched(list):
    """A list that tells when it's changed."""

    def changed(self, *given):
        raise AssertionError("what was handed in is changed")

    __setitem__ = __delitem__ = __iadd__ = __imul__ = changed
    append = extend = insert = pop = remove = clear = sort = reverse = changed


def flat(calls):
    return [number for call in calls for number in call]


class Interface(unittest.TestCase):
    def test_layout(self):
        line = [0, 32] + list(b"owner a\nowner b\ngood x\ngood why\n") + [1, 0, 1, 7, 9, 0, 9, 2, 8, 3]
        self.assertEqual(answers(line), [3, 0, 2, 2, 1, 0, 5, 0, 0, 0, 7, 0, 1, -1, 2, 0, 3])

    def test_layout_of_every_call(self):
        self.assertEqual(run(*ALL), [
            [0, 3, 2], [0], [0], [0], [0, 1, 2], [0, 2, 2], [0, 3, 2], [0],
            [0], [0], [0, 2, 2, 1, 1], [0], [0], [0], [0],
            [0, 4, 2], [0, 2, 3, 4], [0, 2, 0, 5, 0], [0, 5, 0, 3, 0], [0, 0, 0, 1, 0], [-1], [-2], [-3],
            [-4], [-5], [0, 5, 2], [0, 6, 2], [0], [0],
            [0], [0, 5, 9, 2, 1, 0, 6, 10, 2, 1, 0], [0, 1, 0], [0] + list(b"b gives 9 x to c\n"), [0], [0], [0],
            [0, 7, 2], [0, 8, 2], [0], [0], [0, 7, 8], [0, 9, 4, 4, 1, 9, 0, 9, 0], [0, 0], [0, 1], [0, 1, 2, 2, 0],
            [0, 1, 1, 2, 1], [0, 0, 3], [0], [0] + list(b"a\nb\nc\n\nx\ny\n"), [0, 1, 0], [0, 3, 0], [-3],
            [-1], [-4], [-1], [-3], [-4]])
        self.assertEqual({call[0] for call in ALL}, set(range(20)))

    def test_one_call(self):
        self.assertEqual(answers([8, 1]), [2, 0, 1])
        self.assertEqual(answers([0, 0]), [3, 0, 0, 0])
        self.assertEqual(answers([7, 0]), [1, -2])
        self.assertEqual(answers([3, 0, 0]), [1, -2])
        self.assertEqual(answers([10]), [1, 0])
        self.assertEqual(answers([13]), [1, 0])
        self.assertEqual(answers([14]), [1, 0])
        self.assertEqual(answers([16, 0]), [3, 0, 0, 1])
        self.assertEqual(answers([18]), [2, 0, 10])

    def test_whole_numbers(self):
        told = answers(flat(ALL))
        self.assertIs(type(told), list)
        self.assertEqual({type(number) for number in told}, {int})

    def test_what_is_handed_in_is_not_changed(self):
        line = flat(ALL)
        kept = list(line)
        answers(line)
        self.assertEqual(line, kept)
        self.assertEqual(answers(Watched(line)), answers(line))

    def test_the_same_a_second_time(self):
        line = flat(ALL)
        self.assertEqual(answers(line), answers(line))

    def test_nothing_is_kept(self):
        self.assertEqual(answers([8, 7]), [2, 0, 7])
        answers(flat(ALL))
        self.assertEqual(answers([8, 7, 9, 0, 6, 1]), [2, 0, 7, 1, -1, 1, -3])
        first = answers(flat(ALL))
        first.append(5)
        self.assertEqual(answers(flat(ALL)), first[:-1])

    def test_nothing_is_printed(self):
        out = io.StringIO()
        with contextlib.redirect_stdout(out), contextlib.redirect_stderr(out):
            answers(flat(ALL))
        self.assertEqual(out.getvalue(), "")

    def test_names(self):
        self.assertEqual(ringmarket.trade.answers(calls=[8, 1]), [2, 0, 1])

    def test_longest_lines(self):
        """300 calls, and texts of 600 bytes up to 16000 numbers in all."""
        text = "owner a" + " " * 592 + "\n"
        self.assertEqual(answers(flat([market(text)] * 26)), [3, 0, 1, 0] * 26)
        self.assertEqual(len(answers(flat([ABC] + [make(0, 0, 1)] * 299))), 4 + 2 * 299)
        self.assertEqual(answers(flat([read(" " * 600)] * 26)), [3, 0, 0, 1] * 26)
        self.assertEqual(answers(flat([names()] * 300)), [2, 0, 10] * 300)

    def test_most_of_everything(self):
        """16 deals of 8 parties each; for deal 1 seven of them hold, for each other one the eighth in turn."""
        names = ["o" + sign for sign in "abcdefgh"]
        start = "".join(["owner %s\n" % name for name in names]) + "".join(["good g%s\n" % sign for sign in "abcdef"])
        text = "".join(["%s gives 2 gf to %s\n" % (names[place], names[place - 1]) for place in range(8)])
        calls = [market(start)] + [make(owner, 5, 2) for owner in range(8)] + [deal(1000, text)] * 16
        calls += [agree(number, owner) for number in range(1, 17) for owner in range(7)]
        calls += [agree(number, 7) for number in range(16, 0, -1)]
        # Ahead of the last part each other deal waits for deal 1, and for 16, for which the eighth owner holds.
        pairs = [number for waiting in range(2, 16) for number in (waiting, 1, waiting, 16)] + [16, 1]
        self.assertEqual(run(*calls[:-1], waits())[-1], [0] + pairs)
        told = run(*calls, *[tick(100)] * 11)
        self.assertEqual(told[25:152], [[0]] * 127)
        self.assertEqual(told[152], [0] + [number for gone in range(16, 1, -1) for number in (2, gone)] + [1, 1])
        self.assertEqual(told[153:], [[0, 100 * many] for many in range(1, 12)])
