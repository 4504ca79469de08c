"""To settle: parts that wait, deals done, rings, deadlines, and what happened in its order."""

from tests.helper import (ABC, NEARLY, Case, agree, burn, cancel, deal, last, legs, make, market, run, swap, tick,
                          withdraw)

A_TO_B = "a gives 5 x to b\n"
A_TO_C = "a gives 5 x to c\n"
B_TO_C = "b gives 5 x to c\n"
X_FOR_Y = "a gives 5 x to b\nb gives 5 y to a\n"


class Parts(Case):
    def test_part_is_held_later(self):
        calls = [ABC, deal(9, X_FOR_Y), make(1, 1, 5), agree(1, 0), agree(1, 1), make(0, 0, 4), make(0, 0, 1)]
        self.assertEqual(self.line(*calls)[3:], [[0], [0], [0], [0, 1, 1]])
        self.accounts(calls[:6], (4, 0, 0, 0), (0, 0, 0, 5))
        self.accounts(calls, (0, 0, 5, 0), (5, 0, 0, 0))

    def test_all_of_a_part_or_nothing_is_held(self):
        """In one deal a gives x twice, and y: nothing is taken before all of it is there."""
        text = "a gives 2 x to b\na gives 1 y to b\na gives 3 x to c\n"
        calls = [ABC, deal(9, text), agree(1, 0), make(0, 0, 4), make(0, 1, 1)]
        self.line(*calls)
        self.accounts(calls, (4, 0, 1, 0))
        self.accounts(calls + [make(0, 0, 3)], (2, 5, 0, 1))
        self.accounts([ABC, deal(9, text), agree(1, 0), make(0, 0, 9)], (9, 0, 0, 0))
        ended = calls + [make(0, 0, 3), agree(1, 1), agree(1, 2)]
        self.assertEqual(self.line(*ended)[-2:], [[0], [0, 1, 1]])
        self.accounts(ended, (2, 0, 0, 0), (2, 0, 1, 0), (3, 0, 0, 0))

    def test_what_is_got_in_the_deal_does_not_count(self):
        """b would get in the deal what they give in it, but must have it before."""
        calls = [ABC, make(0, 0, 5), deal(9, A_TO_B + B_TO_C), agree(1, 0), agree(1, 1), agree(1, 2)]
        self.assertEqual(self.line(*calls)[-1], [0])
        self.accounts(calls, (0, 5, 0, 0), (0, 0, 0, 0), (0, 0, 0, 0))
        self.assertEqual(last(*calls, make(1, 0, 5)), [0, 1, 1])
        self.accounts(calls + [make(1, 0, 5)], (0, 0, 0, 0), (5, 0, 0, 0), (5, 0, 0, 0))

    def test_all_or_none(self):
        """Two of three have agreed, all that they give is held: no leg is done."""
        text = "a gives 1 x to b\nb gives 2 y to c\nc gives 3 x to a\n"
        calls = [ABC, make(0, 0, 1), make(1, 1, 2), make(2, 0, 3), deal(9, text), agree(1, 0), agree(1, 2)]
        self.assertEqual(self.line(*calls)[-1], [0])
        self.accounts(calls, (0, 1, 0, 0), (0, 0, 2, 0), (0, 3, 0, 0))
        self.accounts(calls + [tick(10)], (1, 0, 0, 0), (0, 0, 2, 0), (3, 0, 0, 0))
        self.assertEqual(last(*calls, agree(1, 1)), [0, 1, 1])
        self.accounts(calls + [agree(1, 1)], (3, 0, 0, 0), (1, 0, 0, 0), (0, 0, 2, 0))

    def test_done_once(self):
        calls = [ABC, make(0, 0, 10), make(1, 1, 10), deal(9, X_FOR_Y), agree(1, 0), agree(1, 1)]
        self.assertEqual(run(*calls, make(0, 0, 5), make(1, 1, 5), tick(100))[-3:], [[0], [0], [0, 100]])
        self.accounts(calls, (5, 0, 5, 0), (5, 0, 5, 0))


class Order(Case):
    def test_who_waited_longer_goes_first(self):
        deals = [ABC, deal(9, A_TO_B), deal(9, A_TO_C)]
        calls = deals + [agree(2, 0), agree(1, 0), agree(1, 1), agree(2, 2), make(0, 0, 5), make(0, 0, 5)]
        self.assertEqual(self.line(*calls)[-2:], [[0, 1, 2], [0, 1, 1]])
        calls = deals + [agree(1, 0), agree(2, 0), agree(2, 2), agree(1, 1), make(0, 0, 5), make(0, 0, 5)]
        self.assertEqual(self.line(*calls)[-2:], [[0, 1, 1], [0, 1, 2]])

    def test_who_can_go_need_not_wait(self):
        """The part that waited longest wants more than there is: the next one goes."""
        calls = [ABC, deal(9, "a gives 8 x to b\n"), deal(9, A_TO_C), agree(1, 1), agree(2, 2), agree(1, 0),
                 agree(2, 0), make(0, 0, 5), make(0, 0, 8)]
        self.assertEqual(self.line(*calls)[-2:], [[0, 1, 2], [0, 1, 1]])

    def test_one_call_lets_several_go(self):
        calls = [ABC, deal(9, A_TO_B), deal(9, A_TO_C), agree(2, 2), agree(2, 0), agree(1, 1), agree(1, 0),
                 make(0, 0, 10)]
        self.assertEqual(self.line(*calls)[-1], [0, 1, 2, 1, 1])

    def test_who_agrees_anew_waits_anew(self):
        calls = [ABC, deal(9, A_TO_B), deal(9, A_TO_C), agree(1, 1), agree(2, 2), agree(1, 0), agree(2, 0),
                 withdraw(1, 0), agree(1, 0), make(0, 0, 5)]
        self.assertEqual(self.line(*calls)[-1], [0, 1, 2])

    def test_a_part_that_was_held_keeps_no_place(self):
        """a's first part is held and withdrawn; agreed to anew it's behind the other one."""
        calls = [ABC, make(0, 0, 5), deal(9, A_TO_B), deal(9, A_TO_C), agree(1, 0), agree(2, 0), withdraw(1, 0),
                 agree(1, 0)]
        self.line(*calls)
        self.assertEqual(run(*calls, agree(1, 1), agree(2, 2))[-2:], [[0], [0, 1, 2]])

    def test_one_deals_end_lets_another_go_on(self):
        calls = [ABC, deal(9, B_TO_C), deal(9, A_TO_B), agree(1, 1), agree(1, 2), agree(2, 0), agree(2, 1),
                 make(0, 0, 5)]
        self.assertEqual(self.line(*calls)[-1], [0, 1, 2, 1, 1])
        self.accounts(calls, (0, 0, 0, 0), (0, 0, 0, 0), (5, 0, 0, 0))

    def test_all_are_asked_anew_behind_a_deals_end(self):
        """b's part in deal 1 waited longer than a's in 2, and that longer than b's in 3."""
        calls = [ABC, deal(9, B_TO_C), deal(9, A_TO_B), deal(9, B_TO_C), agree(1, 2), agree(2, 1), agree(3, 2),
                 agree(1, 1), agree(2, 0), agree(3, 1), make(0, 0, 5)]
        self.assertEqual(self.line(*calls)[-1], [0, 1, 2, 1, 1])
        self.assertEqual(last(*calls, make(1, 0, 5)), [0, 1, 3])


class Rings(Case):
    def test_two(self):
        """a holds for 1 and waits in 2; b holds for 2, and waits in 1 by the last call."""
        calls = [ABC, make(0, 0, 5), make(1, 1, 5), deal(9, X_FOR_Y), deal(9, X_FOR_Y), agree(1, 0), agree(2, 1),
                 agree(2, 0), agree(1, 1)]
        self.assertEqual(self.line(*calls)[-3:], [[0], [0], [0, 2, 2, 1, 1]])
        self.accounts(calls[:-1], (0, 5, 0, 0), (0, 0, 0, 5))
        self.accounts(calls, (0, 0, 5, 0), (5, 0, 0, 0))

    def test_youngest_gives_way_whoever_came_last(self):
        """The same ring, closed by a part in deal 2."""
        calls = [ABC, make(0, 0, 5), make(1, 1, 5), deal(9, X_FOR_Y), deal(9, X_FOR_Y), agree(2, 0), agree(1, 1),
                 agree(1, 0), agree(2, 1)]
        self.assertEqual(self.line(*calls)[-2:], [[0], [0, 2, 2, 1, 1]])

    def test_greatest_number_on_the_ring_not_of_all(self):
        """Deal 3 waits for deal 1, and deal 4 for nobody: both stay."""
        calls = [ABC, make(0, 0, 5), make(1, 1, 5), deal(9, X_FOR_Y), deal(9, X_FOR_Y), deal(9, A_TO_C),
                 deal(9, A_TO_C), agree(1, 0), agree(2, 1), agree(2, 0), agree(3, 0), agree(1, 1)]
        self.assertEqual(self.line(*calls)[-2:], [[0], [0, 2, 2, 1, 1]])
        self.assertEqual(run(*calls, cancel(2), cancel(3), cancel(4))[-3:], [[-3], [0], [0]])

    def test_a_deal_that_waits_for_a_ring_is_not_on_it(self):
        """Behind the ring's end deal 3 is there still, and done once a has x again."""
        calls = [ABC, make(0, 0, 5), make(1, 1, 5), deal(9, X_FOR_Y), deal(9, X_FOR_Y), deal(9, A_TO_C),
                 agree(3, 2), agree(1, 0), agree(3, 0), agree(2, 1), agree(2, 0), agree(1, 1), make(0, 0, 5)]
        self.assertEqual(self.line(*calls)[-2:], [[0, 2, 2, 1, 1], [0, 1, 3]])

    def test_three(self):
        """Each owner holds for one deal and waits in the next one."""
        calls = [ABC, make(0, 0, 5), make(1, 0, 5), make(2, 0, 5), deal(9, "a gives 5 x to c\nc gives 5 x to a\n"),
                 deal(9, "b gives 5 x to a\na gives 5 x to b\n"), deal(9, "c gives 5 x to b\nb gives 5 x to c\n"),
                 agree(1, 0), agree(2, 1), agree(3, 2), agree(2, 0), agree(3, 1), agree(1, 2)]
        self.assertEqual(self.line(*calls)[-4:], [[0], [0], [0], [0, 2, 3, 1, 1, 1, 2]])
        self.accounts(calls[:-1], (0, 5, 0, 0), (0, 5, 0, 0), (0, 5, 0, 0))
        self.accounts(calls, (5, 0, 0, 0), (5, 0, 0, 0), (5, 0, 0, 0))

    def test_eight(self):
        """A ring over eight owners and deals; each deal's end then lets the next one go on."""
        names = "abcdefgh"
        text = market("".join(["owner o%s\n" % name for name in names]) + "good x\n")
        calls = [text] + [make(owner, 0, 1) for owner in range(8)]
        for owner in range(8):
            pair = ("o" + names[owner], "o" + names[owner - 1])
            calls.append(deal(9, "%s gives 1 x to %s\n%s gives 1 x to %s\n" % (pair + pair[::-1])))
        calls += [agree(owner + 1, owner) for owner in range(8)]
        calls += [agree(owner + 2, owner) for owner in range(7)]
        told = self.line(*calls, agree(1, 7))
        self.assertEqual(told[17:-1], [[0]] * 15)
        self.assertEqual(told[-1], [0, 2, 8, 1, 1, 1, 2, 1, 3, 1, 4, 1, 5, 1, 6, 1, 7])

    def test_several_called_off_in_one_call(self):
        """b holds for 2, c for 3, and both wait in 1; with the last call a holds for 1 and waits in 2 and 3."""
        first = "a gives 5 x to b\nb gives 5 y to c\nc gives 5 y to a\n"
        calls = [ABC, make(1, 1, 5), make(2, 1, 5), deal(9, first), deal(9, "a gives 1 x to b\nb gives 1 y to a\n"),
                 deal(9, "a gives 1 x to c\nc gives 1 y to a\n"), agree(2, 1), agree(3, 2), agree(1, 1), agree(1, 2),
                 agree(1, 0), agree(2, 0), agree(3, 0), make(0, 0, 5)]
        self.assertEqual(self.line(*calls)[-1], [0, 2, 3, 2, 2, 1, 1])
        self.accounts(calls[:-1], (0, 0, 0, 0), (0, 0, 4, 1), (0, 0, 4, 1))
        self.accounts(calls, (0, 0, 5, 0), (5, 0, 0, 0), (0, 0, 5, 0))

    def test_a_row_is_no_ring(self):
        """Deal 3 waits for 2 and 2 for 1: nobody gives way."""
        calls = [ABC, make(0, 0, 5), make(1, 0, 5), deal(9, A_TO_B), deal(9, "b gives 5 x to a\na gives 5 x to b\n"),
                 deal(9, B_TO_C), agree(1, 0), agree(2, 1), agree(2, 0), agree(3, 1), agree(3, 2), agree(1, 1)]
        self.assertEqual(self.line(*calls)[-6:], [[0], [0], [0], [0], [0], [0, 1, 1, 1, 3]])

    def test_to_lack_something_else_is_no_wait(self):
        """a holds x for 2, but lacks y alone in 1: deal 1 doesn't wait for 2, though 2 does for 1."""
        calls = [ABC, make(0, 0, 5), make(1, 1, 3), deal(9, "a gives 2 x to b\na gives 5 y to b\nb gives 3 y to a\n"),
                 deal(9, "a gives 3 x to b\nb gives 3 y to a\n"), agree(2, 0), agree(1, 1), agree(2, 1), agree(1, 0)]
        self.assertEqual(self.line(*calls)[-1], [0])
        self.assertEqual(run(*calls, cancel(1), cancel(2))[-2:], [[0, 1, 2], [-3]])

    def test_to_hold_something_else_is_no_wait(self):
        """a lacks x in 1 and holds y alone for 2."""
        calls = [ABC, make(0, 1, 5), make(1, 1, 3), deal(9, "a gives 2 x to b\nb gives 3 y to a\n"),
                 deal(9, "a gives 5 y to b\nb gives 3 y to a\n"), agree(2, 0), agree(1, 1), agree(2, 1), agree(1, 0)]
        self.assertEqual(self.line(*calls)[-1], [0])
        self.assertEqual(run(*calls, cancel(1), cancel(2))[-2:], [[0, 1, 2], [-3]])

    def test_a_part_that_waits_holds_nothing(self):
        """a and b wait in both deals and hold for none."""
        calls = [ABC, deal(9, X_FOR_Y), deal(9, X_FOR_Y), agree(1, 0), agree(2, 0), agree(2, 1), agree(1, 1)]
        self.assertEqual(self.line(*calls)[-1], [0])
        self.assertEqual(run(*calls, make(0, 0, 5), make(1, 1, 5))[-2:], [[0], [0, 2, 2, 1, 1]])

    def test_another_owners_part_is_no_wait(self):
        """a lacks in each deal what b, not a, holds for the other one."""
        calls = [ABC, make(1, 0, 5), make(1, 1, 5), deal(9, X_FOR_Y), deal(9, "a gives 5 y to b\nb gives 5 x to a\n"),
                 agree(1, 1), agree(2, 1), agree(1, 0), agree(2, 0)]
        self.assertEqual(self.line(*calls)[-1], [0])
        self.assertEqual(run(*calls, cancel(1), cancel(2))[-2:], [[0], [0]])


# For deal 3 a holds the x for which their parts in 1 and 2 wait; for 2 b holds the y for which theirs in 1 waits.
BEHIND_THREE = [ABC, make(0, 0, 5), make(1, 1, 5), deal(9, X_FOR_Y), deal(9, X_FOR_Y), deal(0, A_TO_C), agree(3, 0),
                agree(2, 1), agree(1, 0), agree(2, 0), agree(1, 1)]


class RingsByEveryCall(Case):
    def closes(self, before, call, answer):
        told = self.line(*before, call)
        self.assertEqual(told[-2:], [[0], answer])

    def test_burn(self):
        self.closes(NEARLY, burn(0, 0, 1), [0, 2, 2])
        self.accounts(NEARLY + [burn(0, 0, 1)], (4, 0, 0, 0), (0, 0, 0, 3))

    def test_swap(self):
        self.closes(NEARLY, swap("a gives 1 x to c\n"), [0, 2, 2])

    def test_cancel(self):
        self.closes(BEHIND_THREE, cancel(3), [0, 2, 2, 1, 1])

    def test_withdraw(self):
        self.closes(BEHIND_THREE, withdraw(3, 0), [0, 2, 2, 1, 1])

    def test_tick(self):
        self.closes(BEHIND_THREE, tick(1), [0, 1, 3, 3, 2, 2, 1, 1])

    def test_make(self):
        self.closes(BEHIND_THREE, make(0, 0, 5), [0, 2, 2, 1, 1])


class Deadlines(Case):
    def test_very_tick_and_one_later(self):
        self.assertEqual(self.line(ABC, deal(0, A_TO_B), tick(1))[-1], [0, 1, 3, 1])
        told = self.line(ABC, tick(2), deal(3, A_TO_B), tick(1), tick(1), tick(1), tick(1), tick(1))
        self.assertEqual(told[-5:], [[0, 3], [0, 4], [0, 5], [0, 6, 3, 1], [0, 7]])
        self.assertEqual(self.line(ABC, tick(2), deal(3, A_TO_B), tick(3), tick(1))[-2:], [[0, 5], [0, 6, 3, 1]])
        self.assertEqual(self.line(ABC, tick(2), deal(3, A_TO_B), tick(4))[-1], [0, 6, 3, 1])

    def test_by_100(self):
        self.assertEqual(self.line(ABC, deal(99, A_TO_B), tick(100))[-1], [0, 100, 3, 1])
        self.assertEqual(self.line(ABC, deal(100, A_TO_B), tick(100), tick(1))[-2:], [[0, 100], [0, 101, 3, 1]])
        self.assertEqual(self.line(ABC, deal(100, A_TO_B), tick(100), tick(100))[-2:], [[0, 100], [0, 200, 3, 1]])

    def test_longest(self):
        told = run(ABC, deal(1000, A_TO_B), *[tick(100)] * 10, tick(1))
        self.assertEqual(told[-2:], [[0, 1000], [0, 1001, 3, 1]])

    def test_done_at_the_last_tick(self):
        calls = [ABC, make(0, 0, 5), deal(4, A_TO_B), agree(1, 0), tick(4), agree(1, 1), tick(1)]
        self.assertEqual(self.line(*calls)[-3:], [[0, 4], [0, 1, 1], [0, 5]])

    def test_held_is_free_again(self):
        calls = [ABC, make(0, 0, 5), deal(4, A_TO_B), agree(1, 0), tick(4)]
        self.accounts(calls, (0, 5, 0, 0))
        self.accounts(calls + [tick(1)], (5, 0, 0, 0))

    def test_all_of_one_tick_go_before_it_is_settled(self):
        """Deal 2 could be done by what deal 1 held, but its time is over too."""
        calls = [ABC, make(0, 0, 5), deal(4, A_TO_B), deal(4, A_TO_C), agree(1, 0), agree(2, 0), agree(2, 2), tick(5)]
        self.assertEqual(self.line(*calls)[-1], [0, 5, 3, 1, 3, 2])
        self.accounts(calls, (5, 0, 0, 0), (0, 0, 0, 0), (0, 0, 0, 0))

    def test_by_numbers_within_a_tick(self):
        calls = [ABC, deal(9, A_TO_B), deal(5, A_TO_B), tick(1), deal(4, A_TO_B), deal(3, A_TO_B)]
        self.assertEqual(self.line(*calls, tick(100))[-1], [0, 101, 3, 4, 3, 2, 3, 3, 3, 1])
        calls = [ABC, deal(5, A_TO_B), tick(1), deal(9, A_TO_B), deal(4, A_TO_B), tick(50)]
        self.assertEqual(self.line(*calls)[-1], [0, 51, 3, 1, 3, 3, 3, 2])

    def test_settled_between_ticks(self):
        """Deal 2 is done at the tick at which deal 1 ends, one ahead of its own end."""
        calls = [ABC, make(0, 0, 5), deal(4, A_TO_B), deal(5, A_TO_C), agree(1, 0), agree(2, 0), agree(2, 2)]
        self.assertEqual(self.line(*calls, tick(100))[-1], [0, 100, 3, 1, 1, 2])
        self.assertEqual(self.line(*calls, tick(4), tick(1), tick(1))[-3:], [[0, 4], [0, 5, 3, 1, 1, 2], [0, 6]])

    def test_whole_order(self):
        """Time over, done, time over, called off for a ring, done: all in one call."""
        calls = BEHIND_THREE + [deal(0, "c gives 1 y to a\n"), deal(9, "c gives 1 y to b\n"), make(2, 1, 1),
                                agree(4, 2), agree(5, 2), agree(5, 1), deal(3, A_TO_B)]
        self.assertEqual(self.line(*calls, tick(9))[-1], [0, 9, 3, 3, 3, 4, 1, 5, 2, 2, 1, 1, 3, 6])


class MoreThanOneGood(Case):
    def test_a_ring_by_any_lacked_good(self):
        """a lacks both goods in deal 2, holds for deal 1 the second one alone."""
        first = legs("a gives 5 y to b", "b gives 5 x to a")
        second = legs("a gives 1 x to b", "a gives 1 y to b", "b gives 1 x to a")
        calls = [ABC, make(0, 1, 5), make(1, 0, 5), deal(9, first), deal(9, second), agree(1, 0), agree(2, 1),
                 agree(2, 0), agree(1, 1)]
        self.assertEqual(self.line(*calls)[-2:], [[0], [0, 2, 2, 1, 1]])
