"""To settle a market: parts are held, deals are done, deals on a ring give way."""

from ringmarket.state import HELD, WAITS

DONE = 1
CALLED_OFF_FOR_RING = 2


def lacks_of(market, deal, owner):
    """For each good how much the owner lacks to give all that they give in the deal."""
    gives = deal.gives[owner]
    if market.parts.get((deal.number, owner)) == HELD:
        return [0 for amount in gives]
    return [max(amount - free, 0) for amount, free in zip(gives, market.free[owner])]


def lacks_nothing(market, deal, owner):
    return max(lacks_of(market, deal, owner)) == 0


def first_to_hold(market):
    """Deal's number and owner of the part that's held next, or None."""
    for part, standing in market.parts.items():
        if standing == WAITS and lacks_nothing(market, market.deals[part[0]], part[1]):
            return part
    return None


def all_parts_held(market, number):
    return all([market.parts.get((number, owner)) == HELD for owner in market.deals[number].gives])


def hold_parts(market):
    """Hold parts as long as one can be held; tell which deals were done."""
    happened = []
    part = first_to_hold(market)
    while part is not None:
        market.hold_part(part[0], part[1])
        if all_parts_held(market, part[0]):
            market.carry_out(part[0])
            happened.extend([DONE, part[0]])
        # What was done may let a part go on that waited longer, so all are asked anew.
        part = first_to_hold(market)
    return happened


def waits_by(market, deal, other, owner):
    """Whether the owner's part in a deal waits for what their part in the other one holds."""
    if market.parts.get((deal.number, owner)) != WAITS:
        return False
    if market.parts.get((other.number, owner)) != HELD:
        return False
    lacks = lacks_of(market, deal, owner)
    return any([lack > 0 and amount > 0 for lack, amount in zip(lacks, other.gives[owner])])


def waits_for(market, deal, other):
    return any([waits_by(market, deal, other, owner) for owner in deal.gives])


def all_waits(market):
    """For each deal, by its number, the numbers of those that it waits for."""
    waits = {}
    for number, deal in market.deals.items():
        waits[number] = [other.number for other in market.deals.values() if waits_for(market, deal, other)]
    return waits


def is_on_ring(waits, start):
    """Whether one comes back to the deal from it."""
    seen = {}
    ahead = list(waits[start])
    while len(ahead) > 0:
        number = ahead.pop()
        if number == start:
            return True
        if number not in seen:
            seen[number] = True
            ahead.extend(waits[number])
    return False


def greatest_on_ring(market):
    """The greatest number of a deal on a ring, or None."""
    waits = all_waits(market)
    return max([number for number in waits if is_on_ring(waits, number)], default=None)


def settle(market):
    """Settle the market and tell what happened."""
    happened = hold_parts(market)
    number = greatest_on_ring(market)
    while number is not None:
        market.call_off(number)
        happened.extend([CALLED_OFF_FOR_RING, number])
        happened.extend(hold_parts(market))
        number = greatest_on_ring(market)
    return happened
