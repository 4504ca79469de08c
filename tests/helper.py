"""Calls by their names, and a line's answers taken apart again."""

import unittest

from ringmarket.trade import answers

BIG = 10 ** 18
BILLION = 1000000000


def row(text):
    """A text, or a row of bytes, with its length before it."""
    numbers = list(text.encode("latin-1")) if isinstance(text, str) else list(text)
    return [len(numbers)] + numbers


def market(text):
    return [0] + row(text)


def make(owner, good, n):
    return [1, owner, good, n]


def burn(owner, good, n):
    return [2, owner, good, n]


def deal(ticks, legs):
    return [3, ticks] + row(legs)


def agree(number, owner):
    return [4, number, owner]


def withdraw(number, owner):
    return [5, number, owner]


def cancel(number):
    return [6, number]


def swap(legs):
    return [7] + row(legs)


def tick(k):
    return [8, k]


def account(owner):
    return [9, owner]


def apart(told):
    """One list for each call's answer."""
    found = []
    place = 0
    while place < len(told):
        size = told[place]
        found.append(told[place + 1:place + 1 + size])
        if size < 1 or len(found[-1]) != size:
            raise AssertionError("an answer's count is wrong: %r" % (told,))
        place += 1 + size
    return found


def run(*calls):
    """The answers to a line of calls."""
    line = []
    for call in calls:
        line.extend(call)
    found = apart(answers(line))
    if len(found) != len(calls):
        raise AssertionError("%d calls, %d answers" % (len(calls), len(found)))
    return found


def last(*calls):
    return run(*calls)[-1]


def legs(*lines):
    """Legs' text from its lines."""
    return "".join([line + "\n" for line in lines])


# Three owners and two goods; deals 1 and 2 are there in nearly every test.
ABC = market("owner a\nowner b\nowner c\ngood x\ngood y\n")

# What is asked behind a refusal: it tells amounts free and held, which parts there are and
# whether they're held, the tick, the next deal's number, what was made, and the names.
PROBE = (
    [account(0), account(1), account(2), account(3)]
    + [agree(number, owner) for number in range(1, 4) for owner in range(3)]
    + [account(0), account(1), account(2)]
    + [make(owner, good, 1000) for owner in range(3) for good in range(2)]
    + [account(0), account(1), account(2)]
    + [deal(0, "a gives 1 x to b\nb gives 1 y to c\n"), tick(1), tick(1), tick(5), tick(100)]
    + [deal(0, "a gives 1 x to b\n"), make(0, 0, BILLION - 1100)]
    + [make(0, 0, 10)] * 12
)


class Case(unittest.TestCase):
    """Tests that ask what a line of calls answers."""

    def refused(self, before, call, answer):
        """The call behind these is refused so, and all is as it was."""
        found = run(*before, call, *PROBE)
        self.assertEqual(found[len(before)], [answer])
        del found[len(before)]
        self.assertEqual(found, run(*before, *PROBE))

    def line(self, *calls):
        """The answers, where behind each call all owners' accounts are added up.

        What was made of a good and not burned must be what all have free and held, together.
        """
        there = []
        told = []
        for place, call in enumerate(calls):
            answer = last(*calls[:place + 1])
            told.append(answer)
            if call[0] == 0 and answer[0] == 0:
                owners = answer[1]
                there = [0] * answer[2]
            if call[0] in (1, 2) and answer[0] == 0:
                there[call[2]] += call[3] if call[0] == 1 else -call[3]
            asked = run(*calls[:place + 1], *[account(owner) for owner in range(owners)])[place + 1:]
            sums = [sum([one[1 + 2 * good] + one[2 + 2 * good] for one in asked]) for good in range(len(there))]
            self.assertEqual(sums, there)
            self.assertTrue(all([number >= 0 for one in asked for number in one]))
        return told

    def accounts(self, before, *expected):
        """The owners' accounts behind these calls, without the 0 in front."""
        found = run(*before, *[account(owner) for owner in range(len(expected))])
        self.assertEqual(found[len(before):], [[0] + list(one) for one in expected])
