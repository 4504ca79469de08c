"""Long lines of many calls, held against a second writing of the document's words.

The model here is slow and plain: it keeps no sums, but a list of what is held for each part,
and finds a ring by going from deals to deals as many steps as there are deals.
"""

import re

from ringmarket.trade import answers
from tests.helper import BILLION, Case, account, agree, apart, burn, cancel, deal, make, market, swap, tick, withdraw

NAMES = "abcdefgh"
GOODS = "uvwxyz"


class Model:
    def __init__(self, owners, goods):
        self.owners = owners
        self.goods = goods
        self.free = {(owner, good): 0 for owner in range(owners) for good in range(goods)}
        self.made = [0] * goods
        self.burned = [0] * goods
        self.deals = {}
        self.parts = []
        self.now = 0
        self.next_number = 1
        self.happened = []

    def read(self, text):
        lines = text.split("\n")
        if lines.pop() != "" or not 1 <= len(lines) <= 12:
            return None
        legs = []
        for line in lines:
            found = re.fullmatch(" *([a-h]) +gives +([1-9][0-9]{0,8}) +([u-z]) +to +([a-h]) *", line)
            if found is None or found[1] == found[4]:
                return None
            leg = (NAMES.index(found[1]), int(found[2]), GOODS.index(found[3]), NAMES.index(found[4]))
            if max(leg[0], leg[3]) >= self.owners or leg[2] >= self.goods:
                return None
            legs.append(leg)
        return legs

    def gives(self, number, owner, good):
        return sum([leg[1] for leg in self.deals[number]["legs"] if leg[0] == owner and leg[2] == good])

    def parties(self, number):
        return {leg[place] for leg in self.deals[number]["legs"] for place in (0, 3)}

    def lacks(self, part):
        return [good for good in range(self.goods)
                if self.gives(part["deal"], part["owner"], good) > self.free[part["owner"], good]]

    def held(self, owner, good):
        return sum([self.gives(part["deal"], owner, good) for part in self.parts
                    if part["held"] and part["owner"] == owner])

    def part(self, number, owner):
        found = [part for part in self.parts if part["deal"] == number and part["owner"] == owner]
        return found[0] if found else None

    def release(self, part):
        if part["held"]:
            for good in range(self.goods):
                self.free[part["owner"], good] += self.gives(part["deal"], part["owner"], good)
        self.parts = [other for other in self.parts if other != part]

    def end(self, number):
        for owner in self.parties(number):
            if self.part(number, owner) is not None:
                self.release(self.part(number, owner))
        del self.deals[number]

    def hold_first(self):
        ready = [part for part in self.parts if not part["held"] and not self.lacks(part)]
        if not ready:
            return False
        number = ready[0]["deal"]
        for good in range(self.goods):
            self.free[ready[0]["owner"], good] -= self.gives(number, ready[0]["owner"], good)
        ready[0]["held"] = True
        if {part["owner"] for part in self.parts if part["deal"] == number and part["held"]} == self.parties(number):
            for leg in self.deals[number]["legs"]:
                self.free[leg[3], leg[2]] += leg[1]
            self.parts = [part for part in self.parts if part["deal"] != number]
            del self.deals[number]
            self.happened += [1, number]
        return True

    def waits(self):
        return {(part["deal"], other["deal"]) for part in self.parts for other in self.parts
                if part["owner"] == other["owner"] and not part["held"] and other["held"]
                and any([self.gives(other["deal"], part["owner"], good) for good in self.lacks(part)])}

    def on_rings(self):
        waits = self.waits()
        found = []
        for start in self.deals:
            reached = {b for a, b in waits if a == start}
            for step in self.deals:
                reached |= {b for a, b in waits if a in reached}
            if start in reached:
                found.append(start)
        return found

    def settle(self):
        while True:
            while self.hold_first():
                pass
            found = self.on_rings()
            if not found:
                break
            self.end(max(found))
            self.happened += [2, max(found)]
        told = self.happened
        self.happened = []
        return told

    def is_owner(self, owner):
        return owner in range(self.owners)

    def make_or_burn(self, call, owner, good, n):
        if not (self.is_owner(owner) and good in range(self.goods) and 1 <= n <= BILLION):
            return [-1]
        if call == 1:
            if self.made[good] + n > BILLION:
                return [-5]
            self.made[good] += n
            self.free[owner, good] += n
        else:
            if self.free[owner, good] < n:
                return [-4]
            self.burned[good] += n
            self.free[owner, good] -= n
        return [0] + self.settle()

    def deal(self, ticks, text):
        if not 0 <= ticks <= 1000:
            return [-1]
        legs = self.read(text)
        if legs is None:
            return [-2]
        if len(self.deals) == 16:
            return [-5]
        number = self.next_number
        self.deals[number] = {"legs": legs, "last": self.now + ticks}
        self.next_number += 1
        return [0, number, len(self.parties(number))]

    def agree_or_withdraw(self, call, number, owner):
        if not self.is_owner(owner):
            return [-1]
        if number not in self.deals:
            return [-3]
        part = self.part(number, owner)
        if call == 4:
            if part is not None or owner not in self.parties(number):
                return [-4]
            self.parts.append({"deal": number, "owner": owner, "held": False})
        else:
            if part is None:
                return [-4]
            self.release(part)
        return [0] + self.settle()

    def cancel(self, number):
        if number not in self.deals:
            return [-3]
        self.end(number)
        return [0] + self.settle()

    def swap(self, text):
        legs = self.read(text)
        if legs is None:
            return [-2]
        for owner in range(self.owners):
            for good in range(self.goods):
                give = sum([leg[1] for leg in legs if leg[0] == owner and leg[2] == good])
                get = sum([leg[1] for leg in legs if leg[3] == owner and leg[2] == good])
                if self.free[owner, good] < give - get:
                    return [-4]
        for giver, amount, good, taker in legs:
            self.free[giver, good] -= amount
            self.free[taker, good] += amount
        return [0] + self.settle()

    def tick(self, k):
        if not 1 <= k <= 100:
            return [-1]
        told = []
        for step in range(k):
            self.now += 1
            for number in sorted(self.deals):
                if self.deals[number]["last"] < self.now:
                    self.end(number)
                    self.happened += [3, number]
            told += self.settle()
        return [0, self.now] + told

    def account(self, owner):
        if not self.is_owner(owner):
            return [-1]
        told = [0]
        for good in range(self.goods):
            told += [self.free[owner, good], self.held(owner, good)]
        return told

    def answer(self, call):
        if call[0] in (1, 2):
            return self.make_or_burn(*call)
        if call[0] == 3:
            return self.deal(call[1], bytes(call[3:]).decode("latin-1"))
        if call[0] in (4, 5):
            return self.agree_or_withdraw(*call)
        if call[0] == 7:
            return self.swap(bytes(call[2:]).decode("latin-1"))
        return {6: self.cancel, 8: self.tick, 9: self.account}[call[0]](call[1])


class Dice:
    """Numbers that look thrown, the same under every Python."""

    def __init__(self, seed):
        self.seed = seed * 7919 + 13

    def below(self, n):
        self.seed = (self.seed * 6364136223846793005 + 1442695040888963407) % 2 ** 64
        return (self.seed >> 33) % n


def some_legs(dice, owners, goods, most):
    text = ""
    for step in range(1 + dice.below(5)):
        giver = dice.below(owners)
        taker = (giver + 1 + dice.below(owners - 1)) % owners
        amount = 1 + dice.below(most)
        text += "%s gives %d %s to %s\n" % (NAMES[giver], amount, GOODS[dice.below(goods)], NAMES[taker])
    return text


def some_part(dice, model):
    """A deal's number and an owner: mostly one of its parties."""
    if not model.deals or dice.below(12) == 0:
        return (dice.below(model.next_number + 1), dice.below(model.owners + 1))
    number = sorted(model.deals)[dice.below(len(model.deals))]
    parties = sorted(model.parties(number))
    missing = [owner for owner in parties if model.part(number, owner) is None]
    if missing and dice.below(6) > 0:
        parties = missing
    return (number, parties[dice.below(len(parties))])


def some_call(dice, model):
    """Mostly right calls; a number is now and then just outside of its range."""
    owners = model.owners
    goods = model.goods
    owner = dice.below(owners + 1) if dice.below(12) == 0 else dice.below(owners)
    good = dice.below(goods + 1) if dice.below(12) == 0 else dice.below(goods)
    number, party = some_part(dice, model)
    which = dice.below(100)
    if which < 8:
        return make(owner, good, 1 + dice.below(4))
    if which < 12:
        return burn(owner, good, dice.below(4))
    if which < 27 or (which < 60 and len(model.deals) < 6):
        return deal(dice.below(60), some_legs(dice, owners, goods, 3))
    if which < 85:
        return agree(number, party)
    if which < 88:
        return withdraw(number, party)
    if which < 90:
        return cancel(number)
    if which < 94:
        return swap(some_legs(dice, owners, goods, 2))
    return tick(dice.below(5))


class Lines(Case):
    def one_line(self, seed):
        """A line's calls and the model's answers to them, each followed by all accounts."""
        dice = Dice(seed)
        owners = 2 + dice.below(3)
        goods = 1 + dice.below(2)
        text = "".join(["owner %s\n" % NAMES[place] for place in range(owners)])
        text += "".join(["good %s\n" % GOODS[place] for place in range(goods)])
        model = Model(owners, goods)
        calls = [market(text)]
        expected = [[0, owners, goods]]
        first = [make(owner, good, 2 + dice.below(4)) for owner in range(owners) for good in range(goods)]
        while len(calls) + 1 + owners <= 300:
            call = first.pop() if first else some_call(dice, model)
            calls.append(call)
            expected.append(model.answer(call))
            self.assertEqual(model.on_rings(), [])
            for owner in range(owners):
                calls.append(account(owner))
                expected.append(model.account(owner))
            self.books_are_right(model)
        return calls, expected

    def books_are_right(self, model):
        for good in range(model.goods):
            there = sum([model.free[owner, good] + model.held(owner, good) for owner in range(model.owners)])
            self.assertEqual(there, model.made[good] - model.burned[good])

    def test_lines(self):
        seen = {1: 0, 2: 0, 3: 0, "two rings": 0, "refusals": 0}
        for seed in range(400):
            calls, expected = self.one_line(seed)
            line = [number for call in calls for number in call]
            found = apart(answers(line))
            for place, call in enumerate(calls):
                self.assertEqual(found[place], expected[place], (seed, place, call))
                self.count(seen, call, expected[place])
        # The lines are of no use if too little happens in them.
        self.assertTrue(all([many >= 15 for many in seen.values()]), seen)

    def count(self, seen, call, answer):
        if answer[0] < 0:
            seen["refusals"] += 1
        elif call[0] in (1, 2, 4, 5, 6, 7, 8):
            kinds = answer[2 if call[0] == 8 else 1::2]
            for kind in kinds:
                seen[kind] += 1
            if kinds.count(2) > 1:
                seen["two rings"] += 1
