"""The call move: what an owner has free becomes another's, and what that lets be settled."""

from tests.helper import (ABC, BIG, BILLION, NEARLY, OUTSIDE, STARTED, Case, agree, books, burn, deal, deals, last,
                          make, market, move, parts, run, tick, waits)


class Move(Case):
    def test_answer(self):
        calls = [ABC, make(0, 0, 5), make(1, 1, 6), make(2, 0, 1)]
        self.assertEqual(last(*calls, move(0, 2, 0, 2)), [0])
        self.accounts(calls + [move(0, 2, 0, 2)], (3, 0, 0, 0), (0, 0, 6, 0), (3, 0, 0, 0))
        self.accounts(calls + [move(1, 0, 1, 6)], (5, 0, 6, 0), (0, 0, 0, 0), (1, 0, 0, 0))
        self.line(*calls, move(0, 2, 0, 2), move(2, 1, 0, 3), move(1, 2, 1, 4))

    def test_there_and_back(self):
        calls = [ABC, make(0, 0, 5), move(0, 1, 0, 4), move(1, 0, 0, 3)]
        self.accounts(calls, (4, 0, 0, 0), (1, 0, 0, 0))

    def test_to_the_same_owner(self):
        calls = [ABC, make(0, 0, 5)]
        for n in (1, 4, 5):
            self.unchanged(calls, move(0, 0, 0, n), [0])
        self.refused(calls, move(0, 0, 0, 6), -4)
        self.refused(calls, move(0, 0, 1, 1), -4)
        self.refused(calls, move(1, 1, 0, 1), -4)

    def test_as_much_as_is_free(self):
        calls = [ABC, make(0, 0, 5), make(1, 0, 9)]
        self.accounts(calls + [move(0, 1, 0, 5)], (0, 0, 0, 0), (14, 0, 0, 0))
        self.refused(calls, move(0, 1, 0, 6), -4)
        self.refused(calls, move(0, 1, 0, BILLION), -4)
        self.refused(calls, move(0, 1, 1, 1), -4)
        self.refused(calls, move(2, 1, 0, 1), -4)

    def test_held_is_not_free(self):
        self.refused(STARTED, move(0, 2, 0, 4), -4)
        self.refused(STARTED, move(0, 0, 0, 4), -4)
        self.accounts(STARTED + [move(0, 2, 0, 3)], (0, 5, 0, 0), (0, 0, 6, 0), (4, 0, 0, 0))

    def test_new_line(self):
        self.assertEqual(last(move(0, 0, 0, 1)), [-1])
        self.assertEqual(last(market("owner a\n"), move(0, 0, 0, 1)), [-1])
        self.assertEqual(last(market("good x\n"), move(0, 0, 0, 1)), [-1])

    def test_range_of_n(self):
        self.assertEqual(last(ABC, make(0, 0, 1), move(0, 1, 0, 1)), [0])
        self.accounts([ABC, make(0, 0, BILLION), move(0, 1, 0, BILLION)], (0, 0, 0, 0), (BILLION, 0, 0, 0))
        for n in (0, -1, -BIG, BILLION + 1, BIG):
            self.refused([ABC, make(0, 0, BILLION)], move(0, 1, 0, n), -1)
            self.refused([ABC, make(0, 0, BILLION)], move(0, 0, 0, n), -1)

    def test_range_of_owners(self):
        for owner in range(3):
            self.assertEqual(last(ABC, make(owner, 0, 1), move(owner, 1, 0, 1)), [0])
            self.assertEqual(last(ABC, make(1, 0, 1), move(1, owner, 0, 1)), [0])
        for owner in OUTSIDE:
            self.refused(STARTED, move(owner, 0, 0, 1), -1)
            self.refused(STARTED, move(0, owner, 0, 1), -1)
            self.refused(STARTED, move(owner, owner, 0, 1), -1)

    def test_range_of_good(self):
        for good in range(2):
            self.assertEqual(last(ABC, make(0, good, 1), move(0, 1, good, 1)), [0])
        for good in OUTSIDE + (2,):
            self.refused(STARTED, move(0, 1, good, 1), -1)

    def test_nearest_to_0(self):
        """Each wrong number where there isn't so much either."""
        for call in (move(3, 0, 0, 900), move(0, 3, 0, 900), move(0, 1, 2, 900), move(0, 1, 0, BILLION + 1),
                     move(2, -1, 1, 1), move(-1, 2, 1, 1)):
            self.refused(STARTED, call, -1)

    def test_makes_and_burns_nothing(self):
        calls = [ABC, make(0, 0, BILLION), move(0, 1, 0, 7)]
        self.assertEqual(last(*calls, books()), [0, BILLION, 0, BILLION, 0, 0, 0, 0, 0])
        self.assertEqual(last(*calls, make(0, 0, 1)), [-5])
        self.assertEqual(last(*calls, burn(1, 0, 7)), [0])


class Settles(Case):
    def test_a_part_is_held(self):
        """b lacks one y in deal 1; with it the deal is done."""
        calls = STARTED + [make(2, 1, 1), move(2, 1, 1, 1)]
        self.assertEqual(self.line(*calls)[-2:], [[0], [0, 1, 1]])
        self.accounts(calls, (3, 0, 7, 0), (5, 0, 0, 0), (1, 0, 0, 0))

    def test_held_and_not_done(self):
        calls = [ABC, make(0, 0, 4), make(2, 0, 1), deal(9, "a gives 5 x to b\n"), agree(1, 0), move(2, 0, 0, 1)]
        self.assertEqual(last(*calls), [0])
        self.assertEqual(last(*calls[:-1], parts(1)), [0, 0, 0])
        self.assertEqual(last(*calls, parts(1)), [0, 0, 1])
        self.accounts(calls, (0, 5, 0, 0))

    def test_several(self):
        """What comes by deal 2 lets deal 1 go on."""
        calls = [ABC, make(2, 0, 5), deal(9, "b gives 5 x to c\n"), deal(9, "a gives 5 x to b\n"), agree(1, 1),
                 agree(1, 2), agree(2, 0), agree(2, 1), move(2, 0, 0, 5)]
        self.assertEqual(self.line(*calls)[-1], [0, 1, 2, 1, 1])
        self.accounts(calls, (0, 0, 0, 0), (0, 0, 0, 0), (5, 0, 0, 0))

    def test_a_ring_by_what_is_gone(self):
        calls = NEARLY + [move(0, 2, 0, 1)]
        self.assertEqual(self.line(*calls)[-2:], [[0], [0, 2, 2]])
        self.assertEqual(last(*NEARLY, waits()), [0, 2, 1])
        self.assertEqual(last(*calls, deals(), waits()), [0])
        self.accounts(calls, (4, 0, 0, 0), (0, 0, 0, 3), (1, 0, 0, 0))

    def test_a_ring_by_what_has_come(self):
        """With 5 y a's part in 1 is held, which doesn't wait then; without the fifth it does still."""
        calls = NEARLY + [make(2, 1, 5)]
        self.assertEqual(run(*calls, move(2, 0, 1, 4), waits())[-2:], [[0], [0, 2, 1]])
        self.assertEqual(last(*calls, move(2, 0, 1, 5)), [0, 1, 1, 1, 2])

    def test_to_the_same_owner_nothing_happens(self):
        self.unchanged(NEARLY, move(0, 0, 0, 2), [0])

    def test_time_goes_on(self):
        self.assertEqual(run(ABC, make(0, 0, 1), deal(0, "a gives 1 x to b\n"), move(0, 1, 0, 1), tick(1))[-2:],
                         [[0], [0, 1, 3, 1]])
