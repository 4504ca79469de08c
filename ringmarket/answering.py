"""The calls: each takes the market, the call's whole numbers and its text, and gives its answer.

Each looks for its refusals before it changes anything, the one nearest to 0 first.
"""

from ringmarket.refusals import NoPlace, NoSuchDeal, NotSo, OutOfRange
from ringmarket.settling import settle
from ringmarket.state import WAITS
from ringmarket.texts import read_legs, read_market

MOST_MADE = 1000000000
MOST_DEALS = 16
MOST_TICKS_OF_DEAL = 1000
MOST_TICKS_AT_ONCE = 100
LAST_TICK = 1000000000
TIME_WAS_OVER = 3


def check_range(number, least, most):
    if not least <= number <= most:
        raise OutOfRange()


def check_owner(market, owner):
    check_range(owner, 0, len(market.owners) - 1)


def check_amount(market, owner, good, amount):
    check_owner(market, owner)
    check_range(good, 0, len(market.goods) - 1)
    check_range(amount, 1, MOST_MADE)


def check_deal(market, number):
    if number not in market.deals:
        raise NoSuchDeal()


def answer_market(market, numbers, text):
    names = read_market(text)
    market.begin(names[0], names[1])
    return [0, len(market.owners), len(market.goods)]


def answer_make(market, numbers, text):
    owner = numbers[0]
    good = numbers[1]
    amount = numbers[2]
    check_amount(market, owner, good, amount)
    # What was burned counts as made all the same.
    if market.made[good] + amount > MOST_MADE:
        raise NoPlace()
    market.made[good] += amount
    market.free[owner][good] += amount
    return [0] + settle(market)


def answer_burn(market, numbers, text):
    owner = numbers[0]
    good = numbers[1]
    amount = numbers[2]
    check_amount(market, owner, good, amount)
    if market.free[owner][good] < amount:
        raise NotSo()
    market.free[owner][good] -= amount
    return [0] + settle(market)


def answer_deal(market, numbers, text):
    check_range(numbers[0], 0, MOST_TICKS_OF_DEAL)
    legs = read_legs(text, market.owners, market.goods)
    if len(market.deals) >= MOST_DEALS:
        raise NoPlace()
    deal = market.add_deal(legs, numbers[0])
    return [0, deal.number, len(deal.gives)]


def answer_agree(market, numbers, text):
    number = numbers[0]
    owner = numbers[1]
    check_owner(market, owner)
    check_deal(market, number)
    if owner not in market.deals[number].gives or (number, owner) in market.parts:
        raise NotSo()
    market.parts[(number, owner)] = WAITS
    return [0] + settle(market)


def answer_withdraw(market, numbers, text):
    number = numbers[0]
    owner = numbers[1]
    check_owner(market, owner)
    check_deal(market, number)
    if (number, owner) not in market.parts:
        raise NotSo()
    market.drop_part(number, owner)
    return [0] + settle(market)


def answer_cancel(market, numbers, text):
    check_deal(market, numbers[0])
    market.call_off(numbers[0])
    return [0] + settle(market)


def left_by_exchange(market, legs):
    """What each owner would have free of each good, below 0 where it can't be."""
    left = [list(amounts) for amounts in market.free]
    for giver, amount, good, taker in legs:
        left[giver][good] -= amount
        left[taker][good] += amount
    return left


def answer_swap(market, numbers, text):
    legs = read_legs(text, market.owners, market.goods)
    left = left_by_exchange(market, legs)
    if any([min(amounts) < 0 for amounts in left]):
        raise NotSo()
    market.free = left
    return [0] + settle(market)


def end_overdue(market):
    """Call off the deals whose time is over at this tick, and settle."""
    overdue = [deal.number for deal in market.deals.values() if deal.last_tick < market.tick]
    happened = []
    for number in overdue:
        market.call_off(number)
        happened.extend([TIME_WAS_OVER, number])
    # Every call leaves a settled market, so a tick that ends no deal has nothing to settle.
    if len(overdue) > 0:
        happened.extend(settle(market))
    return happened


def answer_tick(market, numbers, text):
    check_range(numbers[0], 1, MOST_TICKS_AT_ONCE)
    if market.tick + numbers[0] > LAST_TICK:
        raise NoPlace()
    happened = []
    for step in range(numbers[0]):
        market.tick += 1
        happened.extend(end_overdue(market))
    return [0, market.tick] + happened


def answer_account(market, numbers, text):
    check_owner(market, numbers[0])
    answer = [0]
    for free, held in zip(market.free[numbers[0]], market.held[numbers[0]]):
        answer.extend([free, held])
    return answer


# By a call's number: what answers it, how many whole numbers it has, how many texts.
CALLS = (
    (answer_market, 0, 1),
    (answer_make, 3, 0),
    (answer_burn, 3, 0),
    (answer_deal, 1, 1),
    (answer_agree, 2, 0),
    (answer_withdraw, 2, 0),
    (answer_cancel, 1, 0),
    (answer_swap, 0, 1),
    (answer_tick, 1, 0),
    (answer_account, 1, 0),
)
