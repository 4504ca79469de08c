"""The calls that only ask: deals, parts, legs, waits, books, could, names, lacks."""

from tests.helper import (ABC, BILLION, LEG, NO_DEALS, OUTSIDE, SIXTEEN, STARTED, THREE, TWO, Case, agree, books, burn,
                          cancel, could, deal, deals, lacks, last, legs, legs_of, make, market, move, names, parts, row,
                          run, swap, tick, waits, withdraw)

X_FOR_Y = "a gives 5 x to b\nb gives 5 y to a\n"
# Deals 1 and 2 on a ring; the last call is the one that closes it, so that 2 is called off and 1 done.
RING = [ABC, make(0, 0, 5), make(1, 1, 5), deal(9, X_FOR_Y), deal(9, X_FOR_Y), agree(1, 0), agree(2, 1), agree(2, 0),
        agree(1, 1)]
EIGHT_NAMES = ["o" + sign for sign in "abcdefgh"]
EIGHT = market("".join(["owner %s\n" % name for name in EIGHT_NAMES]) + "good x\n")
# Each of eight owners gives one x to the next.
ROUND = "".join(["%s gives 1 x to %s\n" % (EIGHT_NAMES[place - 1], EIGHT_NAMES[place]) for place in range(8)])


def told(text):
    """The answer that tells this text."""
    return [0] + row(text)[1:]


class NoDeal(Case):
    """-3 of the calls that ask of one deal."""

    def test_new_line(self):
        self.assertEqual(run(parts(1), legs_of(1), could(1), parts(0), legs_of(0), could(0)), [[-3]] * 6)

    def test_no_such_deal(self):
        for ask in (parts, legs_of, could):
            for number in NO_DEALS:
                self.refused(STARTED, ask(number), -3)

    def test_there_no_more(self):
        for ask in (parts, legs_of, could):
            self.refused(STARTED + [cancel(2)], ask(2), -3)
            self.refused(STARTED + [make(1, 1, 1)], ask(1), -3)
            self.refused(STARTED + [tick(5)], ask(1), -3)
            self.refused(RING, ask(2), -3)
            self.refused(STARTED + [ABC], ask(1), -3)

    def test_both_ends(self):
        """16 deals: the first and the last number that are there."""
        self.assertEqual(run(*SIXTEEN, parts(1), parts(16), parts(17))[-3:], [[0], [0], [-3]])
        self.assertEqual(run(*SIXTEEN, legs_of(1), legs_of(16), legs_of(17))[-3:], [told(LEG), told(LEG), [-3]])
        self.assertEqual(run(*SIXTEEN, could(1), could(16), could(17))[-3:], [[0, 1], [0, 1], [-3]])


class Deals(Case):
    def test_new_line(self):
        self.assertEqual(run(deals(), tick(5), deals()), [[0], [0, 5], [0]])
        self.assertEqual(last(ABC, deals()), [0])

    def test_answer(self):
        self.unchanged(STARTED, deals(), [0, 1, 6, 2, 2, 1, 2, 11, 3, 0, 0])

    def test_parts_and_held_parts(self):
        calls = [ABC, make(0, 0, 5), deal(9, TWO), deal(9, THREE)]
        asked = []
        for call in (agree(1, 1), agree(1, 0), agree(2, 0), agree(2, 1), withdraw(1, 1), withdraw(1, 0)):
            calls.append(call)
            asked.append(last(*calls, deals()))
        self.assertEqual(asked, [
            [0, 1, 9, 2, 1, 0, 2, 9, 3, 0, 0],
            [0, 1, 9, 2, 2, 1, 2, 9, 3, 0, 0],
            [0, 1, 9, 2, 2, 1, 2, 9, 3, 1, 1],
            [0, 1, 9, 2, 2, 1, 2, 9, 3, 2, 1],
            [0, 1, 9, 2, 1, 1, 2, 9, 3, 2, 1],
            [0, 1, 9, 2, 0, 0, 2, 9, 3, 2, 1]])

    def test_ticks(self):
        """The least and the most ticks that a deal lasts, told from the tick at which it came."""
        self.assertEqual(last(ABC, deal(0, LEG), deal(1000, LEG), deals()), [0, 1, 0, 2, 0, 0, 2, 1000, 2, 0, 0])
        self.assertEqual(last(ABC, tick(7), deal(0, LEG), deal(1000, LEG), deals()),
                         [0, 1, 7, 2, 0, 0, 2, 1007, 2, 0, 0])
        self.assertEqual(last(ABC, deal(3, LEG), tick(3), deals()), [0, 1, 3, 2, 0, 0])
        self.assertEqual(last(ABC, deal(3, LEG), tick(4), deals()), [0])

    def test_by_numbers(self):
        """Neither who agrees first nor whose time ends first goes ahead."""
        calls = [ABC, deal(9, LEG), deal(3, THREE), deal(6, LEG), agree(3, 0), agree(2, 1), agree(1, 1)]
        self.assertEqual(last(*calls, deals()), [0, 1, 9, 2, 1, 1, 2, 3, 3, 1, 0, 3, 6, 2, 1, 0])

    def test_sixteen(self):
        self.assertEqual(last(*SIXTEEN, deals()),
                         [0] + [number for place in range(1, 17) for number in (place, 1000, 2, 0, 0)])

    def test_eight_parties(self):
        calls = [EIGHT, deal(4, ROUND)] + [agree(1, owner) for owner in range(8)] + [make(3, 0, 1)]
        self.assertEqual(last(*calls, deals()), [0, 1, 4, 8, 8, 1])

    def test_there_no_more_and_numbers_go_on(self):
        calls = STARTED + [make(1, 1, 1)]
        self.assertEqual(last(*calls, deals()), [0, 2, 11, 3, 0, 0])
        self.assertEqual(last(*STARTED, cancel(1), deals()), [0, 2, 11, 3, 0, 0])
        self.assertEqual(last(*STARTED, tick(5), deals()), [0, 2, 11, 3, 0, 0])
        self.assertEqual(last(*RING, deals()), [0])
        self.assertEqual(last(*calls, cancel(2), deals()), [0])
        self.assertEqual(last(*calls, cancel(2), deal(1, LEG), deals()), [0, 3, 3, 2, 0, 0])
        self.assertEqual(last(*STARTED, cancel(2), deal(1, LEG), deals()), [0, 1, 6, 2, 2, 1, 3, 3, 2, 0, 0])
        self.assertEqual(last(*RING, deal(1, LEG), deals()), [0, 3, 1, 2, 0, 0])
        self.assertEqual(last(*STARTED, ABC, deals()), [0])
        self.assertEqual(last(*STARTED, ABC, deal(1, LEG), deals()), [0, 1, 1, 2, 0, 0])


class Parts(Case):
    def test_none(self):
        self.unchanged(STARTED, parts(2), [0])

    def test_answer(self):
        self.unchanged(STARTED, parts(1), [0, 0, 1, 1, 0])

    def test_order_is_that_of_agreeing(self):
        calls = [ABC, deal(9, THREE), deal(9, "c gives 9 x to b\n"), agree(1, 2), agree(2, 2), agree(1, 0), agree(2, 1),
                 agree(1, 1)]
        self.assertEqual(last(*calls, parts(1)), [0, 2, 0, 0, 1, 1, 0])
        self.assertEqual(last(*calls, parts(2)), [0, 2, 0, 1, 1])

    def test_held_later_keeps_its_place(self):
        calls = [ABC, deal(9, THREE), agree(1, 2), agree(1, 1), make(1, 1, 3)]
        self.assertEqual(last(*calls[:-1], parts(1)), [0, 2, 0, 1, 0])
        self.assertEqual(last(*calls, parts(1)), [0, 2, 0, 1, 1])
        self.assertEqual(last(*calls, make(2, 0, 2), parts(1)), [0, 2, 1, 1, 1])

    def test_withdrawn_and_agreed_anew(self):
        calls = STARTED + [withdraw(1, 0)]
        self.assertEqual(last(*calls, parts(1)), [0, 1, 0])
        self.assertEqual(last(*calls, agree(1, 0), parts(1)), [0, 1, 0, 0, 1])
        self.assertEqual(last(*calls, burn(0, 0, 4), agree(1, 0), parts(1)), [0, 1, 0, 0, 0])
        self.assertEqual(last(*STARTED, withdraw(1, 1), agree(1, 1), parts(1)), [0, 0, 1, 1, 0])

    def test_a_part_that_goes_lets_another_be_held(self):
        calls = [ABC, make(0, 0, 5), deal(9, TWO), deal(9, TWO), agree(1, 0), agree(2, 0)]
        self.assertEqual(run(*calls, parts(1), parts(2))[-2:], [[0, 0, 1], [0, 0, 0]])
        self.assertEqual(run(*calls, withdraw(1, 0), parts(1), parts(2))[-2:], [[0], [0, 0, 1]])
        self.assertEqual(run(*calls, withdraw(1, 0), agree(1, 0), parts(1), parts(2))[-2:], [[0, 0, 0], [0, 0, 1]])

    def test_eight(self):
        calls = [EIGHT, deal(4, ROUND)] + [agree(1, owner) for owner in (7, 0, 3, 1, 6, 2, 5, 4)] + [make(3, 0, 1)]
        self.assertEqual(last(*calls, parts(1)), [0, 7, 0, 0, 0, 3, 1, 1, 0, 6, 0, 2, 0, 5, 0, 4, 0])


class Legs(Case):
    def answers(self, text, one):
        self.assertEqual(last(ABC, deal(5, text), legs_of(1)), told(one))

    def test_answer(self):
        self.unchanged(STARTED, legs_of(1), told(TWO))
        self.unchanged(STARTED, legs_of(2), told(THREE))

    def test_bytes(self):
        self.assertEqual(last(ABC, deal(5, LEG), legs_of(1)),
                         [0, 97, 32, 103, 105, 118, 101, 115, 32, 49, 32, 120, 32, 116, 111, 32, 98, 10])

    def test_blanks(self):
        self.answers("   a gives 1 x to b\n", LEG)
        self.answers("a gives 1 x to b    \n", LEG)
        self.answers("a  gives   1    x  to   b\n", LEG)
        self.answers("  a   gives  1 x    to b   \n b gives 20  y to   c \n", LEG + "b gives 20 y to c\n")
        self.answers("a gives 1 x to b" + " " * 583 + "\n", LEG)

    def test_amounts(self):
        for amount in ("1", "9", "10", "100000000", "123456789", "999999999"):
            self.answers("a gives  %s x to b\n" % amount, "a gives %s x to b\n" % amount)

    def test_all_twelve_in_order(self):
        lines = ["%s gives %d %s to %s" % (giver, 12 - place, good, taker) for place, (giver, good, taker) in enumerate(
            [(giver, good, taker) for giver in "cab" for good in "yx" for taker in "abc" if giver != taker])]
        self.assertEqual(len(lines), 12)
        self.answers(legs(*lines), legs(*lines))
        self.answers("".join([" " + line.replace(" ", "  ") + "  \n" for line in lines]), legs(*lines))

    def test_twelve_alike(self):
        self.answers(LEG * 12, LEG * 12)

    def test_names(self):
        text = "abcdefgh gives 7 hgfedcba to gives\ngives gives 1 to to abcdefgh\n"
        self.assertEqual(last(market("owner gives\ngood to\nowner abcdefgh\ngood hgfedcba\n"), deal(0, text),
                              legs_of(1)), told(text))

    def test_parts_and_time_change_nothing(self):
        self.assertEqual(last(*STARTED, withdraw(1, 0), tick(4), legs_of(1)), told(TWO))


class Waits(Case):
    def test_none(self):
        self.assertEqual(run(waits(), ABC, waits()), [[0], [0, 3, 2], [0]])
        self.unchanged(STARTED, waits(), [0])
        self.assertEqual(last(*SIXTEEN, waits()), [0])

    def test_answer(self):
        calls = [ABC, make(0, 0, 5), deal(9, TWO), deal(9, TWO), agree(1, 0), agree(2, 0)]
        self.unchanged(calls, waits(), [0, 2, 1])

    def test_an_older_deal_waits_for_a_younger_one(self):
        calls = [ABC, make(0, 0, 5), deal(9, TWO), deal(9, TWO), agree(2, 0), agree(1, 0)]
        self.unchanged(calls, waits(), [0, 1, 2])

    def test_by_both_numbers(self):
        """a's parts in 2, 4 and 5 are held, in this order: 4, 2, 5; theirs in 3 and 1 wait."""
        calls = [ABC, make(0, 0, 6)] + [deal(9, "a gives %d x to b\n" % amount) for amount in (4, 2, 3, 1, 3)]
        calls += [agree(4, 0), agree(2, 0), agree(5, 0), agree(3, 0), agree(1, 0)]
        self.unchanged(calls, waits(), [0, 1, 2, 1, 4, 1, 5, 3, 2, 3, 4, 3, 5])

    def test_several_goods_lacked(self):
        """a lacks x and y in 3; 1 holds x, 2 holds y, 4 holds both and is told once."""
        calls = [ABC, make(0, 0, 6), make(0, 1, 6), deal(9, "a gives 5 x to b\n"), deal(9, "a gives 5 y to b\n"),
                 deal(9, "a gives 2 x to b\na gives 2 y to b\n"), deal(9, "a gives 1 x to b\na gives 1 y to b\n"),
                 agree(1, 0), agree(2, 0), agree(4, 0), agree(3, 0)]
        self.unchanged(calls, waits(), [0, 3, 1, 3, 2, 3, 4])

    def test_one_of_two_goods_lacked(self):
        """Of y a has enough free in 3, so that it doesn't wait for 2."""
        calls = [ABC, make(0, 0, 6), make(0, 1, 7), deal(9, "a gives 5 x to b\n"), deal(9, "a gives 5 y to b\n"),
                 deal(9, "a gives 2 x to b\na gives 2 y to b\n"), agree(1, 0), agree(2, 0), agree(3, 0)]
        self.assertEqual(last(*calls, waits()), [0, 3, 1])
        self.assertEqual(last(*calls, burn(0, 1, 1), waits()), [0, 3, 1, 3, 2])

    def test_two_owners_wait_for_one_deal(self):
        calls = [ABC, make(0, 0, 5), make(1, 1, 7), deal(9, "a gives 5 x to c\nb gives 7 y to c\n"), deal(9, TWO),
                 agree(1, 0), agree(1, 1), agree(2, 0), agree(2, 1)]
        self.assertEqual(last(*calls, waits()), [0, 2, 1])

    def test_two_owners_wait_for_two_deals(self):
        calls = [ABC, make(0, 0, 5), make(1, 1, 7), deal(9, TWO), deal(9, "b gives 7 y to c\n"),
                 deal(9, "a gives 5 x to c\n"), agree(2, 1), agree(3, 0), agree(1, 1), agree(1, 0)]
        self.assertEqual(last(*calls, waits()), [0, 1, 2, 1, 3])

    def test_a_chain(self):
        """Deal 3 waits for 2 by b, and 2 for 1 by a."""
        calls = [ABC, make(0, 0, 5), make(1, 0, 5), deal(9, "a gives 5 x to b\n"),
                 deal(9, "b gives 5 x to a\na gives 5 x to b\n"), deal(9, "b gives 5 x to c\n"), agree(1, 0),
                 agree(2, 1), agree(2, 0), agree(3, 1), agree(3, 2)]
        self.unchanged(calls, waits(), [0, 2, 1, 3, 2])
        self.assertEqual(run(*calls, agree(1, 1), waits())[-2:], [[0, 1, 1, 1, 3], [0]])

    def test_who_has_not_agreed_does_not_wait(self):
        calls = [ABC, make(0, 0, 5), deal(9, TWO), deal(9, TWO), agree(1, 0), agree(2, 1)]
        self.assertEqual(last(*calls, waits()), [0])

    def test_another_owners_part(self):
        """b lacks in 2 what a, not b, holds for 1."""
        calls = [ABC, make(0, 0, 5), deal(9, X_FOR_Y), deal(9, "b gives 5 x to a\n"), agree(1, 0), agree(2, 1)]
        self.assertEqual(last(*calls, waits()), [0])

    def test_another_good(self):
        calls = [ABC, make(0, 1, 5), deal(9, "a gives 5 y to b\n"), deal(9, "a gives 5 x to b\n"), agree(1, 0),
                 agree(2, 0)]
        self.assertEqual(last(*calls, waits()), [0])

    def test_a_part_that_waits_is_waited_for_by_none(self):
        calls = [ABC, deal(9, TWO), deal(9, TWO), agree(1, 0), agree(2, 0)]
        self.assertEqual(last(*calls, waits()), [0])

    def test_no_longer(self):
        calls = [ABC, make(0, 0, 5), deal(9, TWO), deal(7, TWO), agree(2, 0), agree(1, 0)]
        for call in (make(0, 0, 5), cancel(1), cancel(2), withdraw(1, 0), withdraw(2, 0), tick(8), ABC):
            self.assertEqual(last(*calls, call, waits()), [0])
        self.assertEqual(last(*calls, make(0, 0, 4), waits()), [0, 1, 2])

    def test_rings_are_gone(self):
        self.assertEqual(last(*RING[:-1], waits()), [0, 2, 1])
        self.assertEqual(last(*RING, waits()), [0])
        calls = [EIGHT] + [make(owner, 0, 1) for owner in range(8)] + [deal(9, ROUND)] * 3
        calls += [agree(1, owner) for owner in range(4)] + [agree(2, owner) for owner in (5, 6)] + [agree(3, 7)]
        calls += [agree(3, 0), agree(3, 5), agree(2, 1)]
        self.assertEqual(last(*calls, waits()), [0, 2, 1, 3, 1, 3, 2])
        # With 7 deal 1 would wait for 3, which waits for 1.
        self.assertEqual(run(*calls, agree(1, 7), waits())[-2:], [[0, 2, 3], [0, 2, 1]])


class Books(Case):
    def test_new_line(self):
        self.assertEqual(last(books()), [0])
        self.assertEqual(last(tick(3), books()), [0])

    def test_without_owners_or_goods(self):
        self.assertEqual(last(market("owner a\nowner b\n"), books()), [0])
        self.assertEqual(last(market("good x\ngood y\n"), books()), [0, 0, 0, 0, 0, 0, 0, 0, 0])

    def test_nothing_yet(self):
        self.assertEqual(last(ABC, books()), [0, 0, 0, 0, 0, 0, 0, 0, 0])

    def test_answer(self):
        self.unchanged(STARTED, books(), [0, 9, 0, 4, 5, 6, 0, 6, 0])
        self.unchanged(STARTED + [burn(0, 0, 2), burn(1, 1, 3)], books(), [0, 9, 2, 2, 5, 6, 3, 3, 0])

    def test_made_and_burned(self):
        calls = [ABC, make(0, 0, 5), make(1, 0, 7), burn(1, 0, 2), burn(0, 0, 5), make(2, 0, 1)]
        self.assertEqual(last(*calls, books()), [0, 13, 7, 6, 0, 0, 0, 0, 0])
        self.line(*calls)

    def test_most(self):
        calls = [ABC, make(0, 0, BILLION), make(2, 1, BILLION - 1)]
        self.assertEqual(last(*calls, books()), [0, BILLION, 0, BILLION, 0, BILLION - 1, 0, BILLION - 1, 0])
        calls.append(burn(0, 0, BILLION))
        self.assertEqual(last(*calls, books()), [0, BILLION, BILLION, 0, 0, BILLION - 1, 0, BILLION - 1, 0])
        self.assertEqual(run(*calls, make(1, 0, 1), books())[-2:],
                         [[-5], [0, BILLION, BILLION, 0, 0, BILLION - 1, 0, BILLION - 1, 0]])

    def test_refusals_are_not_counted(self):
        calls = [ABC, make(0, 0, 5), burn(0, 0, 6), burn(1, 0, 1), make(0, 0, 0), make(3, 0, 1), make(0, 0, BILLION)]
        self.assertEqual(last(*calls, books()), [0, 5, 0, 5, 0, 0, 0, 0, 0])

    def test_deals(self):
        """Held for two deals; one is done, one called off."""
        calls = [ABC, make(0, 0, 9), make(1, 1, 7), deal(9, TWO), deal(9, "a gives 2 x to c\n"), agree(1, 0),
                 agree(2, 0)]
        self.assertEqual(last(*calls, books()), [0, 9, 0, 2, 7, 7, 0, 7, 0])
        self.assertEqual(last(*calls, agree(1, 1), books()), [0, 9, 0, 7, 2, 7, 0, 7, 0])
        self.assertEqual(last(*calls, agree(1, 1), cancel(2), books()), [0, 9, 0, 9, 0, 7, 0, 7, 0])
        self.assertEqual(last(*calls, withdraw(1, 0), books()), [0, 9, 0, 7, 2, 7, 0, 7, 0])
        self.assertEqual(last(*calls, tick(10), books()), [0, 9, 0, 9, 0, 7, 0, 7, 0])
        self.line(*calls, agree(1, 1), cancel(2), tick(10))

    def test_swap_and_move(self):
        calls = [ABC, make(0, 0, 9), swap("a gives 4 x to b\n"), move(1, 2, 0, 3), move(2, 2, 0, 3)]
        self.assertEqual(last(*calls, books()), [0, 9, 0, 9, 0, 0, 0, 0, 0])
        self.line(*calls)

    def test_ring(self):
        self.assertEqual(last(*RING[:-1], books()), [0, 5, 0, 0, 5, 5, 0, 0, 5])
        self.assertEqual(last(*RING, books()), [0, 5, 0, 5, 0, 5, 0, 5, 0])

    def test_a_new_market(self):
        self.assertEqual(last(*STARTED, burn(0, 0, 1), ABC, books()), [0] * 9)
        self.assertEqual(last(*STARTED, market("owner a"), books()), [0, 9, 0, 4, 5, 6, 0, 6, 0])


class Could(Case):
    def test_nothing_held(self):
        self.unchanged([ABC, make(0, 0, 5), make(1, 1, 7), deal(9, TWO)], could(1), [0, 1])
        self.unchanged([ABC, make(0, 0, 5), make(1, 1, 6), deal(9, TWO)], could(1), [0, 0])
        self.unchanged([ABC, make(0, 0, 4), make(1, 1, 7), deal(9, TWO)], could(1), [0, 0])

    def test_behind_others(self):
        self.unchanged(STARTED, could(1), [0, 0])
        self.unchanged(STARTED, could(2), [0, 0])
        self.unchanged(STARTED + [make(2, 0, 1)], could(2), [0, 1])

    def test_held_for_this_very_deal(self):
        """a has nothing free but 5 x held for deal 1."""
        calls = [ABC, make(0, 0, 5), make(1, 1, 7), deal(9, TWO), agree(1, 0)]
        self.unchanged(calls, could(1), [0, 1])
        self.unchanged(calls + [burn(1, 1, 1)], could(1), [0, 0])

    def test_held_for_another_deal(self):
        calls = [ABC, make(0, 0, 9), make(1, 1, 7), deal(9, TWO), deal(9, TWO), agree(2, 0)]
        self.unchanged(calls, could(1), [0, 0])
        self.unchanged(calls, could(2), [0, 1])
        self.unchanged(calls + [make(0, 0, 1)], could(1), [0, 1])
        self.unchanged(calls + [agree(1, 0)], could(1), [0, 0])
        self.unchanged(calls + [withdraw(2, 0)], could(1), [0, 1])

    def test_who_gives_nothing(self):
        self.unchanged([ABC, make(0, 0, 1), deal(9, LEG)], could(1), [0, 1])
        self.unchanged([ABC, make(1, 0, 1), deal(9, LEG)], could(1), [0, 0])
        self.unchanged([ABC, deal(9, LEG), agree(1, 1)], could(1), [0, 0])

    def test_legs_of_one_owner_are_added(self):
        calls = [ABC, deal(9, "a gives 3 x to b\na gives 4 x to c\n")]
        self.assertEqual(last(*calls, make(0, 0, 6), could(1)), [0, 0])
        self.assertEqual(last(*calls, make(0, 0, 7), could(1)), [0, 1])

    def test_each_good(self):
        calls = [ABC, deal(9, "a gives 3 x to b\na gives 4 y to c\n"), make(0, 0, 90), make(0, 1, 3)]
        self.assertEqual(last(*calls, could(1)), [0, 0])
        self.assertEqual(last(*calls, make(0, 1, 1), could(1)), [0, 1])

    def test_what_they_get_does_not_count(self):
        calls = [ABC, make(0, 0, 5), deal(9, "a gives 5 x to b\nb gives 5 x to c\n")]
        self.assertEqual(last(*calls, could(1)), [0, 0])
        self.assertEqual(last(*calls, make(1, 0, 5), could(1)), [0, 1])

    def test_greatest_amounts(self):
        calls = [ABC, make(0, 0, BILLION), deal(9, "a gives 999999999 x to b\na gives 1 x to b\n")]
        self.assertEqual(last(*calls, could(1)), [0, 1])
        self.assertEqual(last(*calls, burn(0, 0, 1), could(1)), [0, 0])


class Names(Case):
    def test_new_line(self):
        self.assertEqual(last(names()), [0, 10])
        self.assertEqual(last(market(""), names()), [0, 10])

    def test_answer(self):
        self.unchanged(STARTED, names(), [0, 97, 10, 98, 10, 99, 10, 10, 120, 10, 121, 10])

    def test_owners_only(self):
        self.assertEqual(last(market("owner bob\nowner al\n"), names()), told("bob\nal\n\n"))

    def test_goods_only(self):
        self.assertEqual(last(market("good rye\ngood corn\n"), names()), told("\nrye\ncorn\n"))

    def test_both_in_the_order_of_their_lines(self):
        text = "good z\n owner   d \n  good abcdefgh\nowner azazazaz\ngood  b\n"
        self.assertEqual(last(market(text), names()), told("d\nazazazaz\n\nz\nabcdefgh\nb\n"))

    def test_most(self):
        owners = ["owner" + sign for sign in "hgfedcba"]
        goods = ["good" + sign for sign in "fedcba"]
        text = "".join(["owner %s\n" % name for name in owners]) + "".join(["good %s\n" % name for name in goods])
        self.assertEqual(last(market(text), names()), told("\n".join(owners) + "\n\n" + "\n".join(goods) + "\n"))

    def test_a_new_market(self):
        self.assertEqual(last(ABC, market("owner z\n"), names()), told("z\n\n"))
        self.assertEqual(last(ABC, market("owner z"), names()), told("a\nb\nc\n\nx\ny\n"))


class Lacks(Case):
    def test_agreed_and_waits(self):
        self.unchanged(STARTED, lacks(1, 1), [0, 0, 1])

    def test_held(self):
        """a has 3 x free, gives 5 in deal 1, and these are held."""
        self.unchanged(STARTED, lacks(1, 0), [0, 0, 0])
        self.unchanged(STARTED + [burn(0, 0, 3)], lacks(1, 0), [0, 0, 0])

    def test_has_not_agreed(self):
        self.unchanged(STARTED, lacks(2, 2), [0, 1, 0])
        self.unchanged(STARTED, lacks(2, 1), [0, 0, 0])
        self.unchanged(STARTED + [withdraw(1, 1)], lacks(1, 1), [0, 0, 1])
        self.unchanged(STARTED + [withdraw(1, 0)], lacks(1, 0), [0, 0, 0])
        self.unchanged(STARTED + [withdraw(1, 0), burn(0, 0, 8)], lacks(1, 0), [0, 5, 0])

    def test_gives_nothing(self):
        self.unchanged(STARTED, lacks(2, 0), [0, 0, 0])
        self.unchanged(STARTED + [agree(2, 0)], lacks(2, 0), [0, 0, 0])

    def test_held_for_another_deal(self):
        calls = [ABC, make(0, 0, 7), deal(9, TWO), deal(9, TWO), agree(1, 0)]
        self.assertEqual(last(*calls, lacks(2, 0)), [0, 3, 0])
        self.assertEqual(last(*calls, agree(2, 0), lacks(2, 0)), [0, 3, 0])

    def test_several_goods(self):
        text = "a gives 3 x to b\na gives 4 y to b\na gives 5 x to c\n"
        calls = [ABC, deal(9, text), make(0, 0, 2), make(0, 1, 1)]
        self.assertEqual(last(*calls, lacks(1, 0)), [0, 6, 3])
        self.assertEqual(last(*calls, make(0, 0, 5), lacks(1, 0)), [0, 1, 3])
        self.assertEqual(last(*calls, make(0, 0, 6), lacks(1, 0)), [0, 0, 3])
        self.assertEqual(last(*calls, make(0, 0, 7), make(0, 1, 3), lacks(1, 0)), [0, 0, 0])

    def test_six_goods(self):
        text = market("owner a\nowner b\n" + "".join(["good g%s\n" % sign for sign in "abcdef"]))
        calls = [text, deal(9, "a gives 2 gf to b\na gives 3 gb to b\n"), make(0, 1, 1)]
        self.assertEqual(last(*calls, lacks(1, 0)), [0, 0, 2, 0, 0, 0, 2])

    def test_most(self):
        self.assertEqual(last(ABC, deal(0, "a gives 999999999 x to b\n" * 12), lacks(1, 0)), [0, 12 * 999999999, 0])

    def test_new_line(self):
        self.assertEqual(run(lacks(1, 0), lacks(0, 0), lacks(1, -1)), [[-1], [-1], [-1]])

    def test_range_of_owner(self):
        self.assertEqual(run(*STARTED, lacks(2, 0), lacks(2, 1), lacks(2, 2))[-3:],
                         [[0, 0, 0], [0, 0, 0], [0, 1, 0]])
        for owner in OUTSIDE:
            self.refused(STARTED, lacks(2, owner), -1)

    def test_no_such_deal(self):
        for number in NO_DEALS:
            self.refused(STARTED, lacks(number, 0), -3)
        self.refused(STARTED + [cancel(2)], lacks(2, 2), -3)
        self.refused(STARTED + [make(1, 1, 1)], lacks(1, 0), -3)
        self.refused(STARTED + [tick(5)], lacks(1, 0), -3)
        self.refused(RING, lacks(2, 0), -3)

    def test_no_party(self):
        self.refused(STARTED, lacks(1, 2), -4)
        self.refused([ABC, deal(0, "b gives 1 x to c\n")], lacks(1, 0), -4)

    def test_nearest_to_0(self):
        self.refused(STARTED, lacks(3, 3), -1)
        self.refused(STARTED, lacks(1, -1), -1)
        self.refused(STARTED, lacks(3, 2), -3)
        self.refused(STARTED + [cancel(1)], lacks(1, 2), -3)
