"""The calls 0 to 9: answers, ranges, refusals, and that a refusal leaves all as it was."""

from ringmarket.answering import answer_tick
from ringmarket.refusals import NoPlace, OutOfRange
from ringmarket.state import Market
from tests.helper import (ABC, BIG, BILLION, LEG, NO_DEALS, OUTSIDE, SIXTEEN, STARTED, THREE, TWO, Case, account,
                          agree, burn, cancel, deal, last, make, market, run, swap, tick, withdraw)


class Beginning(Case):
    def test_no_owners_goods_deals(self):
        calls = [make(0, 0, 1), burn(0, 0, 1), agree(1, 0), withdraw(1, 0), cancel(1), account(0), tick(1)]
        self.assertEqual(run(*calls), [[-1], [-1], [-1], [-1], [-3], [-1], [0, 1]])

    def test_tick_and_next_deal(self):
        self.assertEqual(run(ABC, deal(0, LEG), tick(1)), [[0, 3, 2], [0, 1, 2], [0, 1, 3, 1]])


class MarketCall(Case):
    def test_answer(self):
        self.assertEqual(last(ABC), [0, 3, 2])
        self.assertEqual(last(market("owner a\ngood x\ngood y\ngood z\n")), [0, 1, 3])

    def test_all_is_new(self):
        self.accounts(STARTED + [ABC], (0, 0, 0, 0), (0, 0, 0, 0), (0, 0, 0, 0))
        self.assertEqual(last(*STARTED, ABC, cancel(1)), [-3])
        self.assertEqual(last(*STARTED, ABC, tick(1)), [0, 1])
        self.assertEqual(last(*STARTED, ABC, deal(0, LEG)), [0, 1, 2])
        self.assertEqual(last(*STARTED, ABC, make(0, 0, BILLION)), [0])
        self.assertEqual(last(*SIXTEEN, ABC, deal(0, LEG)), [0, 1, 2])

    def test_no_part_is_left(self):
        calls = STARTED + [ABC, make(0, 0, 5), make(1, 1, 7), deal(0, TWO), agree(1, 0)]
        self.assertEqual(last(*calls), [0])
        self.assertEqual(last(*calls, agree(1, 1)), [0, 1, 1])

    def test_accounts_are_as_long_as_there_are_goods(self):
        self.assertEqual(run(ABC, market("owner a\n"), account(0), account(1)), [[0, 3, 2], [0, 1, 0], [0], [-1]])
        self.assertEqual(last(market("good a\n"), account(0)), [-1])

    def test_refusal(self):
        self.refused(STARTED, market("owner a\nowner a\n"), -2)


class Make(Case):
    def test_answer(self):
        self.assertEqual(last(ABC, make(2, 1, 30)), [0])
        self.accounts([ABC, make(2, 1, 30), make(2, 1, 4), make(0, 0, 1)], (1, 0, 0, 0), (0, 0, 0, 0), (0, 0, 34, 0))

    def test_settles(self):
        self.assertEqual(last(*STARTED, make(1, 1, 1)), [0, 1, 1])

    def test_range_of_n(self):
        self.assertEqual(last(ABC, make(0, 0, 1)), [0])
        self.accounts([ABC, make(0, 0, BILLION)], (BILLION, 0, 0, 0))
        for n in (0, -1, -BIG, BILLION + 1, BIG):
            self.refused([ABC], make(0, 0, n), -1)

    def test_range_of_owner(self):
        for owner in range(3):
            self.assertEqual(last(ABC, make(owner, 0, 1)), [0])
        for owner in OUTSIDE:
            self.refused(STARTED, make(owner, 0, 1), -1)

    def test_range_of_good(self):
        for good in range(2):
            self.assertEqual(last(ABC, make(0, good, 1)), [0])
        for good in OUTSIDE + (2,):
            self.refused(STARTED, make(0, good, 1), -1)

    def test_no_place(self):
        self.assertEqual(last(ABC, make(0, 0, BILLION - 1), make(1, 0, 1)), [0])
        self.refused([ABC, make(0, 0, BILLION - 1)], make(1, 0, 2), -5)
        self.refused([ABC, make(0, 0, BILLION)], make(0, 0, 1), -5)
        self.refused([ABC, make(0, 0, 1)], make(2, 0, BILLION), -5)

    def test_each_good_for_itself(self):
        self.assertEqual(last(ABC, make(0, 0, BILLION), make(0, 1, BILLION)), [0])

    def test_what_was_burned_was_made(self):
        self.refused([ABC, make(0, 0, BILLION), burn(0, 0, BILLION)], make(0, 0, 1), -5)

    def test_refused_makes_do_not_count(self):
        self.assertEqual(last(ABC, make(0, 0, 2), make(0, 0, BILLION), make(0, 0, BILLION - 2)), [0])

    def test_nearest_to_0(self):
        before = [ABC, make(0, 0, BILLION)]
        self.refused(before, make(0, 0, BILLION + 1), -1)
        self.refused(before, make(3, 0, 1), -1)
        self.refused(before, make(-1, 0, BILLION), -1)


class Burn(Case):
    def test_answer(self):
        self.assertEqual(last(ABC, make(0, 1, 30), burn(0, 1, 12)), [0])
        self.accounts([ABC, make(0, 1, 30), make(1, 1, 5), burn(0, 1, 12)], (0, 0, 18, 0), (0, 0, 5, 0))

    def test_range_of_n(self):
        self.assertEqual(last(ABC, make(0, 0, 1), burn(0, 0, 1)), [0])
        self.accounts([ABC, make(0, 0, BILLION), burn(0, 0, BILLION)], (0, 0, 0, 0))
        for n in (0, -1, -BIG, BILLION + 1, BIG):
            self.refused([ABC, make(0, 0, BILLION)], burn(0, 0, n), -1)

    def test_range_of_owner(self):
        for owner in range(3):
            self.assertEqual(last(ABC, make(owner, 0, 1), burn(owner, 0, 1)), [0])
        for owner in OUTSIDE:
            self.refused(STARTED, burn(owner, 0, 1), -1)

    def test_range_of_good(self):
        for good in range(2):
            self.assertEqual(last(ABC, make(0, good, 1), burn(0, good, 1)), [0])
        for good in OUTSIDE + (2,):
            self.refused(STARTED, burn(0, good, 1), -1)

    def test_not_so_much(self):
        self.refused([ABC, make(0, 0, 5)], burn(0, 0, 6), -4)
        self.refused([ABC, make(0, 0, 5)], burn(0, 1, 1), -4)
        self.refused([ABC, make(0, 0, 5)], burn(1, 0, 1), -4)

    def test_held_is_not_free(self):
        self.refused(STARTED, burn(0, 0, 4), -4)
        self.accounts(STARTED + [burn(0, 0, 3)], (0, 5, 0, 0))

    def test_nearest_to_0(self):
        self.refused([ABC], burn(0, 0, BILLION + 1), -1)
        self.refused([ABC], burn(3, 0, 1), -1)
        self.refused([ABC], burn(0, 2, 1), -1)


class DealCall(Case):
    def test_answer(self):
        self.assertEqual(run(ABC, deal(0, TWO), deal(9, THREE))[1:], [[0, 1, 2], [0, 2, 3]])

    def test_numbers_go_on(self):
        self.assertEqual(last(ABC, deal(0, TWO), deal(9, THREE), cancel(2), deal(0, TWO)), [0, 3, 2])
        self.assertEqual(last(ABC, deal(0, TWO), cancel(1), tick(1), deal(0, TWO)), [0, 2, 2])

    def test_parties(self):
        ring = "a gives 1 x to b\nb gives 1 x to c\nc gives 1 x to a\n"
        self.assertEqual(last(ABC, deal(0, ring)), [0, 1, 3])
        eight = market("".join(["owner o%s\n" % sign for sign in "abcdefgh"]) + "good x\n")
        text = "oa gives 1 x to ob\noc gives 1 x to od\noe gives 1 x to of\nog gives 1 x to oh\noa gives 1 x to oh\n"
        self.assertEqual(last(eight, deal(0, text)), [0, 1, 8])

    def test_nothing_need_be_there(self):
        self.assertEqual(last(ABC, deal(0, "a gives 999999999 x to b\n" * 12)), [0, 1, 2])

    def test_nothing_is_held_by_it(self):
        self.accounts([ABC, make(0, 0, 5), deal(0, TWO)], (5, 0, 0, 0))

    def test_range_of_ticks(self):
        for ticks in (0, 1, 1000):
            self.assertEqual(last(ABC, deal(ticks, LEG)), [0, 1, 2])
        for ticks in (-1, -BIG, 1001, BIG):
            self.refused(STARTED, deal(ticks, LEG), -1)

    def test_wrong_text(self):
        self.refused(STARTED, deal(0, "a gives 0 x to b\n"), -2)

    def test_no_place(self):
        self.assertEqual(last(*SIXTEEN), [0, 16, 2])
        self.refused(SIXTEEN, deal(0, LEG), -5)
        self.assertEqual(last(*SIXTEEN, cancel(4), deal(0, LEG)), [0, 17, 2])
        self.refused(SIXTEEN + [cancel(4), deal(0, LEG)], deal(0, LEG), -5)

    def test_a_deal_that_is_done_gives_place(self):
        self.assertEqual(last(*SIXTEEN, agree(3, 0), agree(3, 1), deal(0, LEG)), [0, 17, 2])

    def test_nearest_to_0(self):
        self.refused(SIXTEEN, deal(1001, LEG), -1)
        self.refused(SIXTEEN, deal(1001, ""), -1)
        self.refused(SIXTEEN, deal(0, ""), -2)
        self.refused([ABC], deal(-1, ""), -1)


class Agree(Case):
    def test_answer(self):
        self.assertEqual(last(*STARTED), [0])
        self.accounts(STARTED, (3, 5, 0, 0), (0, 0, 6, 0), (1, 0, 0, 0))
        calls = [ABC, make(0, 0, 5), make(1, 1, 9), deal(0, TWO), agree(1, 1), agree(1, 0)]
        self.assertEqual(run(*calls)[-2:], [[0], [0, 1, 1]])
        self.accounts(calls, (0, 0, 7, 0), (5, 0, 2, 0))

    def test_who_only_gets_agrees_too(self):
        calls = [ABC, make(0, 0, 1), deal(0, LEG), agree(1, 0)]
        self.assertEqual(last(*calls), [0])
        self.accounts(calls, (0, 1, 0, 0), (0, 0, 0, 0))
        self.assertEqual(last(*calls, agree(1, 1)), [0, 1, 1])
        self.accounts(calls + [agree(1, 1)], (0, 0, 0, 0), (1, 0, 0, 0))

    def test_range_of_owner(self):
        for owner in OUTSIDE:
            self.refused(STARTED, agree(2, owner), -1)

    def test_no_such_deal(self):
        for number in NO_DEALS:
            self.refused(STARTED, agree(number, 0), -3)
        self.refused(STARTED + [cancel(2)], agree(2, 1), -3)
        self.refused(STARTED + [make(1, 1, 1)], agree(1, 0), -3)

    def test_no_party(self):
        self.refused(STARTED, agree(1, 2), -4)

    def test_has_agreed(self):
        self.refused(STARTED, agree(1, 0), -4)
        self.refused(STARTED, agree(1, 1), -4)

    def test_nearest_to_0(self):
        self.refused(STARTED, agree(3, 3), -1)
        self.refused(STARTED, agree(1, 3), -1)
        self.refused(STARTED, agree(3, 2), -3)


class Withdraw(Case):
    def test_held_part(self):
        self.assertEqual(last(*STARTED, withdraw(1, 0)), [0])
        self.accounts(STARTED + [withdraw(1, 0)], (8, 0, 0, 0), (0, 0, 6, 0))

    def test_part_that_waits(self):
        self.assertEqual(last(*STARTED, withdraw(1, 1)), [0])
        self.accounts(STARTED + [withdraw(1, 1)], (3, 5, 0, 0), (0, 0, 6, 0))
        self.assertEqual(last(*STARTED, withdraw(1, 1), make(1, 1, 1)), [0])

    def test_agree_anew(self):
        calls = STARTED + [withdraw(1, 0), withdraw(1, 1), make(1, 1, 1), agree(1, 1), agree(1, 0)]
        self.assertEqual(run(*calls)[-2:], [[0], [0, 1, 1]])

    def test_deal_stays(self):
        self.assertEqual(last(*STARTED, withdraw(1, 0), withdraw(1, 1), cancel(1)), [0])

    def test_settles(self):
        calls = [ABC, make(0, 0, 1), deal(0, LEG), deal(0, LEG), agree(1, 0), agree(2, 0), agree(2, 1)]
        self.assertEqual(last(*calls, withdraw(1, 0)), [0, 1, 2])

    def test_range_of_owner(self):
        for owner in OUTSIDE:
            self.refused(STARTED, withdraw(1, owner), -1)

    def test_no_such_deal(self):
        for number in NO_DEALS:
            self.refused(STARTED, withdraw(number, 0), -3)
        self.refused(STARTED + [cancel(1)], withdraw(1, 0), -3)

    def test_not_agreed(self):
        self.refused(STARTED, withdraw(2, 1), -4)
        self.refused(STARTED, withdraw(1, 2), -4)
        self.refused(STARTED + [withdraw(1, 0)], withdraw(1, 0), -4)

    def test_nearest_to_0(self):
        self.refused(STARTED, withdraw(3, 3), -1)
        self.refused(STARTED, withdraw(1, -1), -1)
        self.refused(STARTED, withdraw(3, 2), -3)


class Cancel(Case):
    def test_what_was_held_is_free(self):
        self.assertEqual(last(*STARTED, cancel(1)), [0])
        self.accounts(STARTED + [cancel(1)], (8, 0, 0, 0), (0, 0, 6, 0), (1, 0, 0, 0))

    def test_settles_and_is_not_told(self):
        calls = [ABC, make(0, 0, 1), deal(0, LEG), deal(0, LEG), agree(1, 0), agree(2, 0), agree(2, 1)]
        self.assertEqual(last(*calls, cancel(1)), [0, 1, 2])

    def test_no_such_deal(self):
        for number in NO_DEALS:
            self.refused(STARTED, cancel(number), -3)
        self.refused(STARTED + [cancel(2)], cancel(2), -3)
        self.refused(STARTED + [make(1, 1, 1)], cancel(1), -3)
        self.refused(STARTED + [tick(5)], cancel(1), -3)


class Tick(Case):
    def test_answer(self):
        self.assertEqual(run(tick(1), tick(100), tick(7)), [[0, 1], [0, 101], [0, 108]])

    def test_range_of_k(self):
        for k in (0, -1, -BIG, 101, BIG):
            self.refused(STARTED, tick(k), -1)

    def test_longest_line(self):
        self.assertEqual(last(*[tick(100)] * 300), [0, 30000])

    def test_no_place(self):
        """No line is long enough to come there, so the tick is set by hand."""
        late = Market()
        late.tick = BILLION - 100
        with self.assertRaises(OutOfRange):
            answer_tick(late, [101], [])
        self.assertEqual(answer_tick(late, [99], []), [0, BILLION - 1])
        with self.assertRaises(NoPlace):
            answer_tick(late, [2], [])
        self.assertEqual(late.tick, BILLION - 1)
        self.assertEqual(answer_tick(late, [1], []), [0, BILLION])
        with self.assertRaises(NoPlace):
            answer_tick(late, [1], [])


class Account(Case):
    def test_answer(self):
        self.assertEqual(run(*STARTED, account(0), account(1), account(2))[-3:],
                         [[0, 3, 5, 0, 0], [0, 0, 0, 6, 0], [0, 1, 0, 0, 0]])

    def test_changes_nothing(self):
        found = run(*STARTED, account(0), account(0), make(1, 1, 1), account(0))
        self.assertEqual(found[-4:], [[0, 3, 5, 0, 0], [0, 3, 5, 0, 0], [0, 1, 1], [0, 3, 0, 7, 0]])

    def test_range_of_owner(self):
        for owner in OUTSIDE:
            self.refused(STARTED, account(owner), -1)


class SwapCall(Case):
    def test_answer(self):
        self.assertEqual(last(ABC, make(0, 0, 5), swap("a gives 4 x to c\n")), [0])

    def test_refusals(self):
        self.refused(STARTED, swap("a gives 4 x to a\n"), -2)
        self.refused(STARTED, swap("a gives 4 x to b\n"), -4)

    def test_nearest_to_0(self):
        self.refused(STARTED, swap("a gives 900 x to b\na gives 0 x to b\n"), -2)

    def test_needs_no_place_for_a_deal(self):
        self.assertEqual(last(*SIXTEEN, swap(LEG)), [0])
