"""The calls: each takes the market, the call's whole numbers and its text, and gives its answer.

Each looks for its refusals before it changes anything, the one nearest to 0 first.
"""

from ringmarket.refusals import NoPlace, NoSuchDeal, NotSo, OutOfRange
from ringmarket.settling import all_waits, lacks_nothing, lacks_of, settle
from ringmarket.state import HELD, WAITS
from ringmarket.texts import read_legs, read_market, row_of, text_of_leg, wrong_line_of_legs

MOST_MADE = 1000000000
MOST_DEALS = 16
MOST_TICKS_OF_DEAL = 1000
MOST_TICKS_AT_ONCE = 100
LAST_TICK = 1000000000
TIME_WAS_OVER = 3


def check_range(number, least, most):
    if not least <= number <= most:
        raise OutOfRange()


def check_owner(market, owner):
    check_range(owner, 0, len(market.owners) - 1)


def check_amount(market, owner, good, amount):
    check_owner(market, owner)
    check_range(good, 0, len(market.goods) - 1)
    check_range(amount, 1, MOST_MADE)


def check_free(market, owner, good, amount):
    if market.free[owner][good] < amount:
        raise NotSo()


def check_deal(market, number):
    if number not in market.deals:
        raise NoSuchDeal()


def answer_market(market, numbers, text):
    names = read_market(text)
    market.begin(names[0], names[1])
    return [0, len(market.owners), len(market.goods)]


def answer_make(market, numbers, text):
    owner = numbers[0]
    good = numbers[1]
    amount = numbers[2]
    check_amount(market, owner, good, amount)
    # What was burned counts as made all the same.
    if market.made[good] + amount > MOST_MADE:
        raise NoPlace()
    market.made[good] += amount
    market.free[owner][good] += amount
    return [0] + settle(market)


def answer_burn(market, numbers, text):
    owner = numbers[0]
    good = numbers[1]
    amount = numbers[2]
    check_amount(market, owner, good, amount)
    check_free(market, owner, good, amount)
    market.burned[good] += amount
    market.free[owner][good] -= amount
    return [0] + settle(market)


def answer_deal(market, numbers, text):
    check_range(numbers[0], 0, MOST_TICKS_OF_DEAL)
    legs = read_legs(text, market.owners, market.goods)
    if len(market.deals) >= MOST_DEALS:
        raise NoPlace()
    deal = market.add_deal(legs, numbers[0])
    return [0, deal.number, len(deal.gives)]


def answer_agree(market, numbers, text):
    number = numbers[0]
    owner = numbers[1]
    check_owner(market, owner)
    check_deal(market, number)
    if owner not in market.deals[number].gives or (number, owner) in market.parts:
        raise NotSo()
    market.parts[(number, owner)] = WAITS
    return [0] + settle(market)


def answer_withdraw(market, numbers, text):
    number = numbers[0]
    owner = numbers[1]
    check_owner(market, owner)
    check_deal(market, number)
    if (number, owner) not in market.parts:
        raise NotSo()
    market.drop_part(number, owner)
    return [0] + settle(market)


def answer_cancel(market, numbers, text):
    check_deal(market, numbers[0])
    market.call_off(numbers[0])
    return [0] + settle(market)


def left_by_exchange(market, legs):
    """What each owner would have free of each good, below 0 where it can't be."""
    left = [list(amounts) for amounts in market.free]
    for giver, amount, good, taker in legs:
        left[giver][good] -= amount
        left[taker][good] += amount
    return left


def can_be_made(left):
    """Whether an exchange that leaves so much can be made."""
    return all([min(amounts) >= 0 for amounts in left])


def answer_swap(market, numbers, text):
    legs = read_legs(text, market.owners, market.goods)
    left = left_by_exchange(market, legs)
    if not can_be_made(left):
        raise NotSo()
    market.free = left
    return [0] + settle(market)


def end_overdue(market):
    """Call off the deals whose time is over at this tick, and settle."""
    overdue = [deal.number for deal in market.deals.values() if deal.last_tick < market.tick]
    happened = []
    for number in overdue:
        market.call_off(number)
        happened.extend([TIME_WAS_OVER, number])
    # Every call leaves a settled market, so a tick that ends no deal has nothing to settle.
    if len(overdue) > 0:
        happened.extend(settle(market))
    return happened


def answer_tick(market, numbers, text):
    check_range(numbers[0], 1, MOST_TICKS_AT_ONCE)
    if market.tick + numbers[0] > LAST_TICK:
        raise NoPlace()
    happened = []
    for step in range(numbers[0]):
        market.tick += 1
        happened.extend(end_overdue(market))
    return [0, market.tick] + happened


def answer_account(market, numbers, text):
    check_owner(market, numbers[0])
    answer = [0]
    for free, held in zip(market.free[numbers[0]], market.held[numbers[0]]):
        answer.extend([free, held])
    return answer


def answer_deals(market, numbers, text):
    answer = [0]
    for deal in market.deals.values():
        standings = [standing for owner, standing in market.parts_of(deal.number)]
        answer.extend([deal.number, deal.last_tick, len(deal.gives), len(standings), standings.count(HELD)])
    return answer


def answer_parts(market, numbers, text):
    check_deal(market, numbers[0])
    answer = [0]
    for owner, standing in market.parts_of(numbers[0]):
        answer.extend([owner, 1 if standing == HELD else 0])
    return answer


def answer_legs(market, numbers, text):
    check_deal(market, numbers[0])
    legs = market.deals[numbers[0]].legs
    return [0] + row_of([text_of_leg(leg, market.owners, market.goods) for leg in legs])


def answer_waits(market, numbers, text):
    answer = [0]
    for number, others in all_waits(market).items():
        for other in others:
            answer.extend([number, other])
    return answer


def answer_books(market, numbers, text):
    answer = [0]
    for good in range(len(market.goods)):
        free = sum([amounts[good] for amounts in market.free])
        held = sum([amounts[good] for amounts in market.held])
        answer.extend([market.made[good], market.burned[good], free, held])
    return answer


def answer_could(market, numbers, text):
    check_deal(market, numbers[0])
    deal = market.deals[numbers[0]]
    return [0, 1 if all([lacks_nothing(market, deal, owner) for owner in deal.gives]) else 0]


def answer_read(market, numbers, text):
    wrong = wrong_line_of_legs(text, market.owners, market.goods)
    if wrong is not None:
        return [0, 0, wrong]
    legs = read_legs(text, market.owners, market.goods)
    could = 1 if can_be_made(left_by_exchange(market, legs)) else 0
    return [0, 1, len(legs), len(market.gives_of(legs)), could]


def answer_move(market, numbers, text):
    giver = numbers[0]
    taker = numbers[1]
    good = numbers[2]
    amount = numbers[3]
    check_amount(market, giver, good, amount)
    check_owner(market, taker)
    check_free(market, giver, good, amount)
    market.free[giver][good] -= amount
    market.free[taker][good] += amount
    return [0] + settle(market)


def answer_names(market, numbers, text):
    # The one more byte 10 between them is the end of an empty line.
    return [0] + row_of(market.owners + [""] + market.goods)


def answer_lacks(market, numbers, text):
    number = numbers[0]
    owner = numbers[1]
    check_owner(market, owner)
    check_deal(market, number)
    deal = market.deals[number]
    if owner not in deal.gives:
        raise NotSo()
    return [0] + lacks_of(market, deal, owner)


# By a call's number: what answers it, how many whole numbers it has, how many texts.
CALLS = (
    (answer_market, 0, 1),
    (answer_make, 3, 0),
    (answer_burn, 3, 0),
    (answer_deal, 1, 1),
    (answer_agree, 2, 0),
    (answer_withdraw, 2, 0),
    (answer_cancel, 1, 0),
    (answer_swap, 0, 1),
    (answer_tick, 1, 0),
    (answer_account, 1, 0),
    (answer_deals, 0, 0),
    (answer_parts, 1, 0),
    (answer_legs, 1, 0),
    (answer_waits, 0, 0),
    (answer_books, 0, 0),
    (answer_could, 1, 0),
    (answer_read, 0, 1),
    (answer_move, 4, 0),
    (answer_names, 0, 0),
    (answer_lacks, 2, 0),
)
