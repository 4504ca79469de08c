"""Long lines of many calls, held against a second writing of the document's words.

The model here is slow and plain: it keeps no sums, but a list of what is held for each part,
and finds a ring by going from deals to deals as many steps as there are deals.
"""

import re

from ringmarket.trade import answers
from tests.helper import (BILLION, Case, account, agree, apart, books, burn, cancel, could, deal, deals, lacks, legs_of,
                          make, market, move, names, parts, read, swap, tick, waits, withdraw)

NAMES = "abcdefgh"
GOODS = "uvwxyz"


class Model:
    def __init__(self):
        self.begin([], [])

    def begin(self, owners, goods):
        """owners and goods are lists of names."""
        self.owners = owners
        self.goods = goods
        self.free = {(owner, good): 0 for owner in range(len(owners)) for good in range(len(goods))}
        self.made = [0] * len(goods)
        self.burned = [0] * len(goods)
        self.deals = {}
        self.parts = []
        self.now = 0
        self.next_number = 1
        self.happened = []

    def leg(self, line):
        found = re.fullmatch(" *([a-z]+) +gives +([1-9][0-9]{0,8}) +([a-z]+) +to +([a-z]+) *", line)
        if found is None or found[1] == found[4] or found[3] not in self.goods:
            return None
        if found[1] not in self.owners or found[4] not in self.owners:
            return None
        return (self.owners.index(found[1]), int(found[2]), self.goods.index(found[3]), self.owners.index(found[4]))

    def legs(self, text):
        """Legs and 0, or None and the wrong line's number."""
        lines = text.split("\n")
        if lines[-1] != "":
            return (None, len(lines))
        lines.pop()
        if not lines:
            return (None, 1)
        if len(lines) > 12:
            return (None, 13)
        found = [self.leg(line) for line in lines]
        return (None, found.index(None) + 1) if None in found else (found, 0)

    def gives(self, number, owner, good):
        return sum([leg[1] for leg in self.deals[number]["legs"] if leg[0] == owner and leg[2] == good])

    def parties(self, number):
        return {leg[place] for leg in self.deals[number]["legs"] for place in (0, 3)}

    def lacked(self, part):
        return [good for good in range(len(self.goods))
                if self.gives(part["deal"], part["owner"], good) > self.free[part["owner"], good]]

    def held(self, owner, good):
        return sum([self.gives(part["deal"], owner, good) for part in self.parts
                    if part["held"] and part["owner"] == owner])

    def part(self, number, owner):
        found = [part for part in self.parts if part["deal"] == number and part["owner"] == owner]
        return found[0] if found else None

    def release(self, part):
        if part["held"]:
            for good in range(len(self.goods)):
                self.free[part["owner"], good] += self.gives(part["deal"], part["owner"], good)
        self.parts = [other for other in self.parts if other != part]

    def end(self, number):
        for owner in self.parties(number):
            if self.part(number, owner) is not None:
                self.release(self.part(number, owner))
        del self.deals[number]

    def hold_first(self):
        ready = [part for part in self.parts if not part["held"] and not self.lacked(part)]
        if not ready:
            return False
        number = ready[0]["deal"]
        for good in range(len(self.goods)):
            self.free[ready[0]["owner"], good] -= self.gives(number, ready[0]["owner"], good)
        ready[0]["held"] = True
        if {part["owner"] for part in self.parts if part["deal"] == number and part["held"]} == self.parties(number):
            for leg in self.deals[number]["legs"]:
                self.free[leg[3], leg[2]] += leg[1]
            self.parts = [part for part in self.parts if part["deal"] != number]
            del self.deals[number]
            self.happened += [1, number]
        return True

    def pairs(self):
        """Each deal with each one that it waits for."""
        return {(part["deal"], other["deal"]) for part in self.parts for other in self.parts
                if part["owner"] == other["owner"] and not part["held"] and other["held"]
                and any([self.gives(other["deal"], part["owner"], good) for good in self.lacked(part)])}

    def on_rings(self):
        pairs = self.pairs()
        found = []
        for start in self.deals:
            reached = {b for a, b in pairs if a == start}
            for step in self.deals:
                reached |= {b for a, b in pairs if a in reached}
            if start in reached:
                found.append(start)
        return found

    def settle(self):
        while True:
            while self.hold_first():
                pass
            found = self.on_rings()
            if not found:
                break
            self.end(max(found))
            self.happened += [2, max(found)]
        told = self.happened
        self.happened = []
        return told

    def is_owner(self, owner):
        return owner in range(len(self.owners))

    def is_good(self, good):
        return good in range(len(self.goods))

    def can_exchange(self, legs):
        for owner in range(len(self.owners)):
            for good in range(len(self.goods)):
                give = sum([leg[1] for leg in legs if leg[0] == owner and leg[2] == good])
                get = sum([leg[1] for leg in legs if leg[3] == owner and leg[2] == good])
                if self.free[owner, good] < give - get:
                    return False
        return True

    def market_call(self, text):
        found = {"owner": [], "good": []}
        for line in re.findall("[^\n]*\n|[^\n]+$", text):
            right = re.fullmatch(" *(owner|good) +([a-z]{1,8}) *\n", line)
            if right is None or right[2] in found["owner"] + found["good"]:
                return [-2]
            found[right[1]].append(right[2])
        if len(found["owner"]) > 8 or len(found["good"]) > 6:
            return [-2]
        self.begin(found["owner"], found["good"])
        return [0, len(self.owners), len(self.goods)]

    def make_call(self, owner, good, n):
        if not (self.is_owner(owner) and self.is_good(good) and 1 <= n <= BILLION):
            return [-1]
        if self.made[good] + n > BILLION:
            return [-5]
        self.made[good] += n
        self.free[owner, good] += n
        return [0] + self.settle()

    def burn_call(self, owner, good, n):
        if not (self.is_owner(owner) and self.is_good(good) and 1 <= n <= BILLION):
            return [-1]
        if self.free[owner, good] < n:
            return [-4]
        self.burned[good] += n
        self.free[owner, good] -= n
        return [0] + self.settle()

    def deal_call(self, ticks, text):
        if not 0 <= ticks <= 1000:
            return [-1]
        legs = self.legs(text)[0]
        if legs is None:
            return [-2]
        if len(self.deals) == 16:
            return [-5]
        number = self.next_number
        one = "".join([" ".join(line.split()) + "\n" for line in text.split("\n")[:-1]])
        self.deals[number] = {"legs": legs, "last": self.now + ticks, "text": one}
        self.next_number += 1
        return [0, number, len(self.parties(number))]

    def agree_call(self, number, owner):
        if not self.is_owner(owner):
            return [-1]
        if number not in self.deals:
            return [-3]
        if self.part(number, owner) is not None or owner not in self.parties(number):
            return [-4]
        self.parts.append({"deal": number, "owner": owner, "held": False})
        return [0] + self.settle()

    def withdraw_call(self, number, owner):
        if not self.is_owner(owner):
            return [-1]
        if number not in self.deals:
            return [-3]
        if self.part(number, owner) is None:
            return [-4]
        self.release(self.part(number, owner))
        return [0] + self.settle()

    def cancel_call(self, number):
        if number not in self.deals:
            return [-3]
        self.end(number)
        return [0] + self.settle()

    def swap_call(self, text):
        legs = self.legs(text)[0]
        if legs is None:
            return [-2]
        if not self.can_exchange(legs):
            return [-4]
        for giver, amount, good, taker in legs:
            self.free[giver, good] -= amount
            self.free[taker, good] += amount
        return [0] + self.settle()

    def tick_call(self, k):
        if not 1 <= k <= 100:
            return [-1]
        told = []
        for step in range(k):
            self.now += 1
            for number in sorted(self.deals):
                if self.deals[number]["last"] < self.now:
                    self.end(number)
                    self.happened += [3, number]
            told += self.settle()
        return [0, self.now] + told

    def account_call(self, owner):
        if not self.is_owner(owner):
            return [-1]
        told = [0]
        for good in range(len(self.goods)):
            told += [self.free[owner, good], self.held(owner, good)]
        return told

    def deals_call(self):
        told = [0]
        for number in sorted(self.deals):
            held = [part["held"] for part in self.parts if part["deal"] == number]
            told += [number, self.deals[number]["last"], len(self.parties(number)), len(held), held.count(True)]
        return told

    def parts_call(self, number):
        if number not in self.deals:
            return [-3]
        told = [0]
        for part in self.parts:
            if part["deal"] == number:
                told += [part["owner"], int(part["held"])]
        return told

    def legs_call(self, number):
        if number not in self.deals:
            return [-3]
        return [0] + list(self.deals[number]["text"].encode())

    def waits_call(self):
        return [0] + [number for pair in sorted(self.pairs()) for number in pair]

    def books_call(self):
        told = [0]
        owners = range(len(self.owners))
        for good in range(len(self.goods)):
            told += [self.made[good], self.burned[good], sum([self.free[owner, good] for owner in owners]),
                     sum([self.held(owner, good) for owner in owners])]
        return told

    def could_call(self, number):
        if number not in self.deals:
            return [-3]
        for owner in self.parties(number):
            part = self.part(number, owner)
            for good in range(len(self.goods)):
                gives = self.gives(number, owner, good)
                held = gives if part is not None and part["held"] else 0
                if self.free[owner, good] + held < gives:
                    return [0, 0]
        return [0, 1]

    def read_call(self, text):
        legs, wrong = self.legs(text)
        if legs is None:
            return [0, 0, wrong]
        parties = {leg[place] for leg in legs for place in (0, 3)}
        return [0, 1, len(legs), len(parties), int(self.can_exchange(legs))]

    def move_call(self, a, b, good, n):
        if not (self.is_owner(a) and self.is_owner(b) and self.is_good(good) and 1 <= n <= BILLION):
            return [-1]
        if self.free[a, good] < n:
            return [-4]
        self.free[a, good] -= n
        self.free[b, good] += n
        return [0] + self.settle()

    def names_call(self):
        owners = "".join([name + "\n" for name in self.owners])
        goods = "".join([name + "\n" for name in self.goods])
        return [0] + list((owners + "\n" + goods).encode())

    def lacks_call(self, number, owner):
        if not self.is_owner(owner):
            return [-1]
        if number not in self.deals:
            return [-3]
        if owner not in self.parties(number):
            return [-4]
        part = self.part(number, owner)
        if part is not None and part["held"]:
            return [0] + [0] * len(self.goods)
        return [0] + [max(0, self.gives(number, owner, good) - self.free[owner, good])
                      for good in range(len(self.goods))]

    def answer(self, call):
        """A call's text, where it has one, stands at its end behind its length."""
        answered = (self.market_call, self.make_call, self.burn_call, self.deal_call, self.agree_call,
                    self.withdraw_call, self.cancel_call, self.swap_call, self.tick_call, self.account_call,
                    self.deals_call, self.parts_call, self.legs_call, self.waits_call, self.books_call,
                    self.could_call, self.read_call, self.move_call, self.names_call, self.lacks_call)[call[0]]
        place = TEXT_AT.get(call[0])
        if place is None:
            return answered(*call[1:])
        return answered(*call[1:place - 1], bytes(call[place:]).decode("latin-1"))


# By the calls that have a text: where it begins, behind its length.
TEXT_AT = {0: 2, 3: 3, 7: 2, 16: 2}


class Dice:
    """Numbers that look thrown, the same under every Python."""

    def __init__(self, seed):
        self.seed = seed * 7919 + 13

    def below(self, n):
        self.seed = (self.seed * 6364136223846793005 + 1442695040888963407) % 2 ** 64
        return (self.seed >> 33) % n

    def one_of(self, row):
        return row[self.below(len(row))]


def some_market(owners, goods):
    return "".join(["owner %s\n" % name for name in NAMES[:owners]] + ["good %s\n" % name for name in GOODS[:goods]])


def some_legs(dice, model, most):
    """Right legs, where there are two owners and a good."""
    owners = model.owners if len(model.owners) > 1 else ["a", "b"]
    goods = model.goods or ["u"]
    text = ""
    for step in range(1 + dice.below(5)):
        giver = dice.below(len(owners))
        taker = (giver + 1 + dice.below(len(owners) - 1)) % len(owners)
        amount = 1 + dice.below(most)
        text += "%s gives %d %s to %s\n" % (owners[giver], amount, dice.one_of(goods), owners[taker])
    return text


def some_number(dice, many):
    """A number below so many, or now and then just outside."""
    return dice.one_of((-1, many)) if many == 0 or dice.below(12) == 0 else dice.below(many)


def some_part(dice, model):
    """A deal's number and an owner: mostly one of its parties."""
    if not model.deals or dice.below(12) == 0:
        return (dice.below(model.next_number + 1), dice.below(len(model.owners) + 1))
    number = dice.one_of(sorted(model.deals))
    parties = sorted(model.parties(number))
    missing = [owner for owner in parties if model.part(number, owner) is None]
    if missing and dice.below(6) > 0:
        parties = missing
    return (number, dice.one_of(parties))


def some_change(dice, model):
    """Mostly right calls of those that change something."""
    owner = some_number(dice, len(model.owners))
    good = some_number(dice, len(model.goods))
    number, party = some_part(dice, model)
    which = dice.below(100)
    if which < 6:
        return make(owner, good, 1 + dice.below(4))
    if which < 9:
        return burn(owner, good, dice.below(4))
    if which < 12:
        return move(owner, some_number(dice, len(model.owners)), good, dice.below(4))
    if which < 27 or (which < 60 and len(model.deals) < 6):
        return deal(dice.below(60), some_legs(dice, model, 3))
    if which < 85:
        return agree(number, party)
    if which < 88:
        return withdraw(number, party)
    if which < 90:
        return cancel(number)
    if which < 94:
        return swap(some_legs(dice, model, 2))
    return tick(dice.below(5))


def some_question(dice, model):
    """Any of the calls that change nothing."""
    number, party = some_part(dice, model)
    owner = some_number(dice, len(model.owners))
    text = some_legs(dice, model, 4)
    if dice.below(3) == 0:
        text = made_wrong(dice, text)
    return dice.one_of((account(owner), deals(), parts(number), legs_of(number), waits(), books(), could(number),
                        read(text), names(), lacks(number, party), lacks(number, owner)))


def made_wrong(dice, text):
    """A text made wrong in one of the ways that there are; seldom it's right still."""
    lines = text.split("\n")[:-1]
    place = dice.below(len(lines))
    which = dice.below(8)
    if which == 0:
        return ""
    if which == 1:
        return text[:-1]
    if which == 2:
        return text + dice.one_of((" ", "a", "\x00", "owner b"))
    if which == 3:
        return (text * 13)[:599 - dice.below(20)] + dice.one_of(("\n", "?"))
    if which == 4:
        lines[place] = dice.one_of(("", " ", "a gives 0 u to b", "a gives 1 u to a", "owner owner owner"))
    if which == 5:
        lines.insert(place, lines[place][1:])
    if which > 5:
        at = dice.below(len(lines[place]))
        lines[place] = lines[place][:at] + dice.one_of("\xff0 a9\t") + lines[place][at + 1:]
    return "".join([line + "\n" for line in lines])


def some_call(dice, model):
    """Any of the twenty calls, mostly right."""
    which = dice.below(200)
    if which == 0:
        text = some_market(dice.below(9), dice.below(7))
        return market(made_wrong(dice, text) if text and dice.below(2) == 0 else text)
    if which < 8:
        text = made_wrong(dice, some_legs(dice, model, 3))
        return dice.one_of((deal(dice.below(1100), text), swap(text)))
    return some_change(dice, model) if which < 120 else some_question(dice, model)


def with_blanks(dice, call):
    """The call with more blanks where its text has some or a line's end."""
    place = TEXT_AT.get(call[0], len(call))
    text = call[place:]
    for step in range(20):
        blanks = min(600 - len(text), dice.below(30))
        places = [at for at in range(len(text)) if text[at] in (10, 32)]
        if places:
            at = dice.one_of(places)
            text = text[:at] + [32] * blanks + text[at:]
    return call[:place - 1] + [len(text)] + text if call[0] in TEXT_AT else call


# By a call's number: with what its answers begin in lines such as these.
BEGINNINGS = ((0, -2), (0, -1), (0, -1, -4), (0, -1, -2, -5), (0, -1, -3, -4), (0, -1, -3, -4), (0, -3), (0, -2, -4),
              (0, -1), (0, -1), (0,), (0, -3), (0, -3), (0,), (0,), (0, -3), (0,), (0, -1, -4), (0,), (0, -1, -3, -4))


def flat(calls):
    return [number for call in calls for number in call]


class Lines(Case):
    def begun(self, dice):
        """A model, the first calls, by which something is there, and their answers."""
        owners = 2 + dice.below(3)
        goods = 1 + dice.below(2)
        calls = [market(some_market(owners, goods))]
        calls += [make(owner, good, 2 + dice.below(4)) for owner in range(owners) for good in range(goods)]
        model = Model()
        return (model, calls, [model.answer(call) for call in calls])

    def asked_line(self, seed):
        """Calls that change something, each followed by the books and all accounts."""
        dice = Dice(seed)
        model, calls, expected = self.begun(dice)
        while len(calls) + 2 + len(model.owners) <= 300:
            asked = [books()] + [account(owner) for owner in range(len(model.owners))]
            for call in [some_change(dice, model)] + asked:
                calls.append(call)
                expected.append(model.answer(call))
            self.promises_hold(model)
        return calls, expected

    def mixed_line(self, seed):
        """300 calls of all twenty and 16000 numbers: texts get blanks wherever the line is behind."""
        dice = Dice(seed)
        model, calls, expected = self.begun(dice) if dice.below(8) > 0 else (Model(), [], [])
        size = len(flat(calls))
        while len(calls) < 299:
            call = some_call(dice, model)
            if size < 15500 * (len(calls) + 1) // 299:
                call = with_blanks(dice, call)
            if size + len(call) > 15500 * (len(calls) + 1) // 299 + 400:
                call = deals()
            size += len(call)
            calls.append(call)
            expected.append(model.answer(call))
            self.promises_hold(model)
        calls.append(read(" " * min(600, 16000 - 2 - size)))
        expected.append(model.answer(calls[-1]))
        return calls, expected

    def promises_hold(self, model):
        self.assertEqual(model.on_rings(), [])
        told = model.books_call()
        for good in range(len(model.goods)):
            made, burned, free, held = told[1 + 4 * good:5 + 4 * good]
            self.assertEqual(free + held, made - burned)

    def compare(self, seed, calls, expected):
        """The answers are the model's; what was handed in is unchanged, and answers the same again."""
        line = flat(calls)
        self.assertLessEqual(len(calls), 300)
        self.assertLessEqual(len(line), 16000)
        told = answers(line)
        self.assertEqual(line, flat(calls))
        self.assertEqual(answers(line), told)
        found = apart(told)
        self.assertEqual(len(found), len(calls))
        for place, call in enumerate(calls):
            self.assertEqual(found[place], expected[place], (seed, place, call))

    def count(self, seen, call, answer):
        if answer[0] < 0:
            seen["refusals"] += 1
        elif call[0] in (1, 2, 4, 5, 6, 7, 8, 17):
            kinds = answer[2 if call[0] == 8 else 1::2]
            for kind in kinds:
                seen[kind] += 1
            if kinds.count(2) > 1:
                seen["two rings"] += 1

    def test_asked_behind_each_call(self):
        seen = {1: 0, 2: 0, 3: 0, "two rings": 0, "refusals": 0}
        for seed in range(300):
            calls, expected = self.asked_line(seed)
            self.compare(seed, calls, expected)
            for call, answer in zip(calls, expected):
                self.count(seen, call, answer)
        # The lines are of no use if too little happens in them.
        self.assertTrue(all([many >= 15 for many in seen.values()]), seen)

    def test_all_twenty_mixed(self):
        seen = {1: 0, 2: 0, 3: 0, "two rings": 0, "refusals": 0, "longest lines": 0}
        for call, beginnings in enumerate(BEGINNINGS):
            for beginning in beginnings:
                seen[call, beginning] = 0
        for seed in range(1000, 1100):
            calls, expected = self.mixed_line(seed)
            self.compare(seed, calls, expected)
            self.assertEqual(len(calls), 300)
            seen["longest lines"] += len(flat(calls)) == 16000
            for call, answer in zip(calls, expected):
                self.count(seen, call, answer)
                seen[call[0], answer[0]] += 1
        self.assertTrue(all([many >= 10 for many in seen.values()]), seen)
