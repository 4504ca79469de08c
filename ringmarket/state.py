"""What there is in a market: owners, goods, what is had of them, deals and parts."""

WAITS = 0
HELD = 1


class Deal:
    """Legs that are done all or not at all."""

    def __init__(self, number, legs, last_tick, gives):
        """gives tells for each party, by the owner's number, how much of each good."""
        self.number = number
        self.legs = legs
        self.last_tick = last_tick
        self.gives = gives


class Market:
    """All that a line of calls is about; new, it has no owners, goods or deals."""

    def __init__(self):
        self.begin([], [])

    def begin(self, owners, goods):
        """Become a new market with these names."""
        self.owners = owners
        self.goods = goods
        self.free = self.nothing()
        self.held = self.nothing()
        self.made = [0 for name in goods]
        self.burned = [0 for name in goods]
        self.tick = 0
        self.next_number = 1
        # A new deal has the greatest number, so a dict walks the deals by their numbers.
        self.deals = {}
        # By deal's number and owner, WAITS or HELD. One dict over all deals keeps the order
        # in which they were agreed to, for a part's value changes but its key stays in place.
        self.parts = {}

    def nothing(self):
        """0 of each good, for each owner."""
        return [[0 for good in self.goods] for owner in self.owners]

    def gives_of(self, legs):
        """How much of each good each party gives; who only gets is a party too."""
        gives = {}
        for giver, amount, good, taker in legs:
            for owner in (giver, taker):
                if owner not in gives:
                    gives[owner] = [0 for name in self.goods]
            gives[giver][good] += amount
        return gives

    def parts_of(self, number):
        """Owner and WAITS or HELD of each part in the deal, in the order in which they agreed."""
        return [(part[1], standing) for part, standing in self.parts.items() if part[0] == number]

    def add_deal(self, legs, ticks):
        """Put a new deal there and give it back."""
        deal = Deal(self.next_number, legs, self.tick + ticks, self.gives_of(legs))
        self.deals[deal.number] = deal
        self.next_number += 1
        return deal

    def hold_part(self, number, owner):
        """Take what the part gives out of what's free."""
        gives = self.deals[number].gives[owner]
        for good, amount in enumerate(gives):
            self.free[owner][good] -= amount
            self.held[owner][good] += amount
        self.parts[(number, owner)] = HELD

    def drop_part(self, number, owner):
        """The part goes; what's held for it is free again."""
        gives = self.deals[number].gives[owner]
        if self.parts.pop((number, owner)) == HELD:
            for good, amount in enumerate(gives):
                self.held[owner][good] -= amount
                self.free[owner][good] += amount

    def call_off(self, number):
        """The deal is there no more, and nothing is held for it."""
        parties = list(self.deals[number].gives)
        for owner in parties:
            if (number, owner) in self.parts:
                self.drop_part(number, owner)
        self.deals.pop(number)

    def carry_out(self, number):
        """The deal, whose parts are all held, is done."""
        deal = self.deals.pop(number)
        for giver, amount, good, taker in deal.legs:
            self.held[giver][good] -= amount
            self.free[taker][good] += amount
        for owner in deal.gives:
            self.parts.pop((number, owner))
