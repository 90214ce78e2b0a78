"""A book: the fund's cash and each holder's units, carried on from day to day."""


class Deal:
    """Of one holder: money in (coins) or units out (units)."""

    def __init__(self, holder, kind, amount):
        self.holder = holder
        self.kind = kind
        self.amount = amount


class Outcome:
    """What a deal brings: money to the fund and units made; below 0 they go the other way."""

    def __init__(self, money, units):
        self.money = money
        self.units = units


class DayResult:
    """A day's fee and the outcomes of its deals, in their order."""

    def __init__(self, fee, outcomes):
        self.fee = fee
        self.outcomes = outcomes


class Book:
    """Cash and the holders' units; it changes only by going past a day."""

    def __init__(self, cash, units):
        self.cash = cash
        # A copy, since the first units must outlive every book that begins with them.
        self.units = list(units)

    def units_of(self, holder):
        return self.units[holder - 1]

    def units_in_all(self):
        return sum(self.units)

    def go_past(self, deals, result):
        self.cash -= result.fee
        for deal, outcome in zip(deals, result.outcomes):
            self.cash += outcome.money
            self.units[deal.holder - 1] += outcome.units
