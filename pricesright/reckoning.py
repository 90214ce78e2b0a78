"""A day's reckoning by a book and quotes, and what deals bring at it."""

from pricesright.book import Book, DayResult, Outcome
from pricesright.bounds import FEE_PARTS, MILLION, MONEY_IN


class Terms:
    """What a fund begins with and keeps."""

    def __init__(self, first_cash, rate, limit, quantities, first_units):
        self.first_cash = first_cash
        self.rate = rate
        self.limit = limit
        self.quantities = quantities
        self.first_units = first_units


class Reckoning:
    """A day's value (the fee is off already), units and fee."""

    def __init__(self, value, units, fee):
        self.value = value
        self.units = units
        self.fee = fee

    def has_price(self):
        return self.value >= 1 and self.units >= 1


def first_book(terms):
    return Book(terms.first_cash, terms.first_units)


def worth_of_things(quantities, quotes):
    millionths = sum([quantity * quote for quantity, quote in zip(quantities, quotes)])
    return millionths // MILLION


def reckon(terms, book, quotes):
    gross = worth_of_things(terms.quantities, quotes) + book.cash
    fee = max(gross, 0) * terms.rate // FEE_PARTS
    return Reckoning(gross - fee, book.units_in_all(), fee)


def outcome_at(deal, reckoning):
    if deal.kind == MONEY_IN:
        return Outcome(deal.amount, deal.amount * reckoning.units // reckoning.value)
    # Rounded down before the sign is turned: what is paid out is never more than its worth.
    paid = deal.amount * reckoning.value // reckoning.units
    return Outcome(-paid, -deal.amount)


def result_at(deals, reckoning):
    return DayResult(reckoning.fee, [outcome_at(deal, reckoning) for deal in deals])
