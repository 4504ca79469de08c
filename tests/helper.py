"""Calls by their names, and a line's answers taken apart again."""

import unittest

from ringmarket.trade import answers

BIG = 10 ** 18
BILLION = 1000000000


def row(text):
    """A text, or a row of bytes, with its length before it."""
    numbers = list(text.encode("latin-1")) if isinstance(text, str) else list(text)
    return [len(numbers)] + numbers


def market(text):
    return [0] + row(text)


def make(owner, good, n):
    return [1, owner, good, n]


def burn(owner, good, n):
    return [2, owner, good, n]


def deal(ticks, legs):
    return [3, ticks] + row(legs)


def agree(number, owner):
    return [4, number, owner]


def withdraw(number, owner):
    return [5, number, owner]


def cancel(number):
    return [6, number]


def swap(legs):
    return [7] + row(legs)


def tick(k):
    return [8, k]


def account(owner):
    return [9, owner]


def deals():
    return [10]


def parts(number):
    return [11, number]


def legs_of(number):
    return [12, number]


def waits():
    return [13]


def books():
    return [14]


def could(number):
    return [15, number]


def read(text):
    return [16] + row(text)


def move(a, b, good, n):
    return [17, a, b, good, n]


def names():
    return [18]


def lacks(number, owner):
    return [19, number, owner]


def apart(told):
    """One list for each call's answer."""
    found = []
    place = 0
    while place < len(told):
        size = told[place]
        found.append(told[place + 1:place + 1 + size])
        if size < 1 or len(found[-1]) != size:
            raise AssertionError("an answer's count is wrong: %r" % (told,))
        place += 1 + size
    return found


def run(*calls):
    """The answers to a line of calls."""
    line = []
    for call in calls:
        line.extend(call)
    found = apart(answers(line))
    if len(found) != len(calls):
        raise AssertionError("%d calls, %d answers" % (len(calls), len(found)))
    return found


def last(*calls):
    return run(*calls)[-1]


def legs(*lines):
    """Legs' text from its lines."""
    return "".join([line + "\n" for line in lines])


# Three owners and two goods.
ABC = market("owner a\nowner b\nowner c\ngood x\ngood y\n")

# Two deals; a's part in the first one is held, b's part there waits.
TWO = "a gives 5 x to b\nb gives 7 y to a\n"
THREE = "b gives 3 y to c\nc gives 2 x to a\n"
STARTED = [ABC, make(0, 0, 8), make(1, 1, 6), make(2, 0, 1), tick(2), deal(4, TWO), deal(9, THREE),
           agree(1, 0), agree(1, 1)]
LEG = "a gives 1 x to b\n"
SIXTEEN = [ABC, make(0, 0, 8)] + [deal(1000, LEG)] * 16

# a holds 3 of 5 x for deal 2, and waits in deal 1 for y alone: of x just enough is free.
NEARLY = [ABC, make(0, 0, 5), make(1, 1, 3), deal(9, "a gives 2 x to b\na gives 5 y to b\nb gives 3 y to a\n"),
          deal(9, "a gives 3 x to b\nb gives 3 y to a\n"), agree(2, 0), agree(1, 1), agree(2, 1), agree(1, 0)]

# Just outside of three owners, and far outside.
OUTSIDE = (-BIG, -2, -1, 3, 4, BIG)
# No deals behind STARTED.
NO_DEALS = (-BIG, -1, 0, 3, BIG)

# All that can be asked of three owners and three deals.
ASKED = (
    [deals(), waits(), books(), names(), account(0), account(1), account(2), account(3), read(LEG), read(TWO)]
    + [ask(number) for number in range(1, 4) for ask in (parts, legs_of, could)]
    + [lacks(number, owner) for number in range(1, 4) for owner in range(3)]
)

# What is asked behind a refusal, and then done: it tells also the tick and the next deal's number.
PROBE = (
    ASKED
    + [agree(number, owner) for number in range(1, 4) for owner in range(3)]
    + ASKED
    + [make(owner, good, 1000) for owner in range(3) for good in range(2)]
    + ASKED
    + [deal(0, "a gives 1 x to b\nb gives 1 y to c\n"), tick(1), tick(1), tick(5), tick(100)]
    + [deal(0, "a gives 1 x to b\n"), make(0, 0, BILLION - 1100)]
    + [make(0, 0, 10)] * 12
)


class Case(unittest.TestCase):
    """Tests that ask what a line of calls answers."""

    def refused(self, before, call, answer):
        """The call behind these is refused so, and all is as it was."""
        found = run(*before, call, *PROBE)
        self.assertEqual(found[len(before)], [answer])
        del found[len(before)]
        self.assertEqual(found, run(*before, *PROBE))

    def unchanged(self, before, call, answer):
        """The call behind these answers so, a second time too, and all is as it was."""
        found = run(*before, call, call, *PROBE)
        self.assertEqual(found[len(before):len(before) + 2], [answer, answer])
        del found[len(before):len(before) + 2]
        self.assertEqual(found, run(*before, *PROBE))

    def line(self, *calls):
        """The answers, where behind each call all owners' accounts are added up.

        What was made of a good and not burned must be what all have free and held, together.
        """
        made = []
        burned = []
        owners = 0
        told = []
        for place, call in enumerate(calls):
            answer = last(*calls[:place + 1])
            told.append(answer)
            if call[0] == 0 and answer[0] == 0:
                owners = answer[1]
                made = [0] * answer[2]
                burned = [0] * answer[2]
            if call[0] == 1 and answer[0] == 0:
                made[call[2]] += call[3]
            if call[0] == 2 and answer[0] == 0:
                burned[call[2]] += call[3]
            asked = run(*calls[:place + 1], books(), *[account(owner) for owner in range(owners)])[place + 1:]
            self.books_are_right(asked[0], asked[1:], made, burned)
        return told

    def books_are_right(self, told, accounts, made, burned):
        expected = [0]
        for good in range(len(made)):
            free = sum([one[1 + 2 * good] for one in accounts])
            held = sum([one[2 + 2 * good] for one in accounts])
            self.assertEqual(free + held, made[good] - burned[good])
            expected += [made[good], burned[good], free, held]
        self.assertEqual(told, expected)
        self.assertTrue(all([number >= 0 for one in accounts for number in one]))

    def accounts(self, before, *expected):
        """The owners' accounts behind these calls, without the 0 in front."""
        found = run(*before, *[account(owner) for owner in range(len(expected))])
        self.assertEqual(found[len(before):], [[0] + list(one) for one in expected])
