"""The object that the calls are made on: a fund's terms, today, its closed days, corrections and balances."""

from pricesright.bounds import HOLDERS, THINGS, UNITS_OUT
from pricesright.history import ClosedDay, book_behind, numbers_of_wrong_days, owed_to_holders, right_history
from pricesright.reckoning import Terms, reckon


class PutRight:
    """What putting right came to: the wrong days, what all were owed, the fees taken too much."""

    def __init__(self, wrong_days, owed, fees):
        self.wrong_days = wrong_days
        self.owed = owed
        self.fees = fees


class Fund:
    """Its methods take what is within the ranges; the calls ask that first."""

    def __init__(self, terms):
        self.begin_anew(terms)

    def begin_anew(self, terms):
        self.terms = terms
        self.quotes = [0] * THINGS
        self.deals = []
        self.days = []
        self.corrections = {}
        self.balances = [0] * HOLDERS

    def standing_book(self):
        return book_behind(self.terms, self.days, [day.standing for day in self.days])

    def history(self):
        return right_history(self.terms, self.days, self.corrections)

    def right_book(self):
        return book_behind(self.terms, self.days, [right.result for right in self.history()])

    def owed_to_each(self):
        return owed_to_holders(self.days, self.history())

    def asked_back(self, holder):
        """The units that the holder has asked to give back today."""
        return sum([deal.amount for deal in self.deals if deal.kind == UNITS_OUT and deal.holder == holder])

    def units_left(self, holder):
        return self.standing_book().units_of(holder) - self.asked_back(holder)

    def reckon_today(self):
        return reckon(self.terms, self.standing_book(), self.quotes)

    def close_today(self, reckoning):
        # A copy, since today's quotes go on changing behind the close.
        self.days.append(ClosedDay(list(self.quotes), self.deals, reckoning))
        self.deals = []

    def put_right(self):
        history = self.history()
        owed = owed_to_holders(self.days, history)
        self.balances = [balance + more for balance, more in zip(self.balances, owed)]
        fees = 0
        for day, right in zip(self.days, history):
            fees += day.standing.fee - right.result.fee
            day.standing = right.result
        return PutRight(len(numbers_of_wrong_days(history)), sum(owed), fees)


def new_fund():
    """The object as it is at a line's beginning."""
    return Fund(Terms(1000, 0, 0, [0] * THINGS, [1000000] + [0] * (HOLDERS - 1)))
