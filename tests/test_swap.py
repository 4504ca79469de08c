"""An exchange of legs at once."""

from tests.helper import ABC, Case, agree, deal, last, legs, make, run, swap


class Exchange(Case):
    def test_ordinary(self):
        calls = [ABC, make(0, 0, 5), make(1, 1, 7), swap("a gives 2 x to b\nb gives 7 y to a\n")]
        self.assertEqual(last(*calls), [0])
        self.accounts(calls, (3, 0, 7, 0), (2, 0, 0, 0), (0, 0, 0, 0))

    def test_owners_give_what_they_get(self):
        """b and c have nothing and pass on what comes to them."""
        calls = [ABC, make(0, 0, 5), swap("b gives 5 x to c\nc gives 4 x to a\na gives 5 x to b\n")]
        self.assertEqual(last(*calls), [0])
        self.accounts(calls, (4, 0, 0, 0), (0, 0, 0, 0), (1, 0, 0, 0))

    def test_round_without_anything(self):
        calls = [ABC, swap("a gives 9 x to b\nb gives 9 x to c\nc gives 9 x to a\n")]
        self.assertEqual(last(*calls), [0])
        self.accounts(calls, (0, 0, 0, 0), (0, 0, 0, 0), (0, 0, 0, 0))

    def test_just_enough(self):
        calls = [ABC, make(0, 0, 5), make(1, 0, 1)]
        self.assertEqual(last(*calls, swap("a gives 6 x to b\nb gives 1 x to a\n")), [0])
        self.refused(calls, swap("a gives 7 x to b\nb gives 1 x to a\n"), -4)

    def test_several_legs_of_one_owner(self):
        calls = [ABC, make(0, 0, 5)]
        self.refused(calls, swap("a gives 3 x to b\na gives 3 x to c\n"), -4)
        self.accounts(calls + [swap("a gives 3 x to b\na gives 2 x to c\n")], (0, 0, 0, 0), (3, 0, 0, 0), (2, 0, 0, 0))
        self.accounts(calls + [swap("a gives 3 x to b\na gives 1 x to b\n")], (1, 0, 0, 0), (4, 0, 0, 0))

    def test_each_good_for_itself(self):
        self.refused([ABC, make(0, 0, 5)], swap("a gives 5 x to b\nb gives 1 y to a\n"), -4)
        self.refused([ABC, make(0, 0, 5)], swap("a gives 1 y to b\n"), -4)

    def test_last_owner_lacks(self):
        self.refused([ABC, make(0, 0, 5)], swap("a gives 5 x to b\nb gives 5 x to c\nc gives 6 x to a\n"), -4)

    def test_held_is_not_free(self):
        calls = [ABC, make(0, 0, 5), deal(0, "a gives 4 x to b\n"), agree(1, 0)]
        self.refused(calls, swap("a gives 2 x to b\n"), -4)
        self.accounts(calls + [swap("a gives 1 x to b\n")], (0, 4, 0, 0), (1, 0, 0, 0))

    def test_settles(self):
        calls = [ABC, make(0, 0, 5), deal(0, "b gives 5 x to c\n"), agree(1, 1), agree(1, 2)]
        calls.append(swap("a gives 5 x to b\n"))
        self.assertEqual(run(*calls)[-2:], [[0], [0, 1, 1]])
        self.accounts(calls, (0, 0, 0, 0), (0, 0, 0, 0), (5, 0, 0, 0))

    def test_greatest_amounts(self):
        many = legs(*["a gives 999999999 x to b"] * 6 + ["b gives 999999999 x to a"] * 6)
        self.assertEqual(last(ABC, swap(many)), [0])
        many = legs(*["a gives 999999999 x to b"] * 7 + ["b gives 999999999 x to a"] * 5)
        self.refused([ABC, make(0, 0, 1000000000)], swap(many), -4)
