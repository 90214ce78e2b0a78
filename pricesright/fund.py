"""The calls on one fund, one behind another, and what they answer."""

from pricesright.book import Deal
from pricesright.bounds import (
    AS_MANY_AS_MAY_BE, HOLDERS, MONEY_IN, MORE_THAN_THERE_IS, MOST_AMOUNT, MOST_CORRECTIONS, MOST_DAYS, MOST_DEALS,
    MOST_FIRST_CASH, MOST_FIRST_UNITS, MOST_LIMIT, MOST_QUANTITY, MOST_QUOTE, MOST_RATE, NOT_THERE, NO_PRICE,
    OUT_OF_RANGE, THINGS, UNITS_OUT, WRONG_FORM,
)
from pricesright.history import numbers_of_wrong_days
from pricesright.reckoning import Terms
from pricesright.state import new_fund


def is_row(row, length, most):
    return len(row) == length and all([0 <= number <= most for number in row])


def is_thing(thing):
    return 1 <= thing <= THINGS


def is_holder(holder):
    return 1 <= holder <= HOLDERS


def is_quote(quote):
    return 0 <= quote <= MOST_QUOTE


def day_refusal(fund, number):
    """The refusal of a day's number, or 0 if that day is closed."""
    if not 1 <= number <= MOST_DAYS:
        return OUT_OF_RANGE
    if number > len(fund.days):
        return NOT_THERE
    return 0


def answer_begin(fund, told):
    terms = Terms(told[0], told[1], told[2], told[3], told[4])
    if not (0 <= terms.first_cash <= MOST_FIRST_CASH and 0 <= terms.rate <= MOST_RATE):
        return [OUT_OF_RANGE]
    if not 0 <= terms.limit <= MOST_LIMIT:
        return [OUT_OF_RANGE]
    if not is_row(terms.quantities, THINGS, MOST_QUANTITY):
        return [WRONG_FORM]
    if not is_row(terms.first_units, HOLDERS, MOST_FIRST_UNITS) or sum(terms.first_units) < 1:
        return [WRONG_FORM]
    fund.begin_anew(terms)
    return [sum(terms.first_units)]


def answer_quote(fund, told):
    thing = told[0]
    quote = told[1]
    if not (is_thing(thing) and is_quote(quote)):
        return [OUT_OF_RANGE]
    before = fund.quotes[thing - 1]
    fund.quotes[thing - 1] = quote
    return [before]


def answer_order(fund, told):
    deal = Deal(told[0], told[1], told[2])
    if not (is_holder(deal.holder) and MONEY_IN <= deal.kind <= UNITS_OUT):
        return [OUT_OF_RANGE]
    if not 1 <= deal.amount <= MOST_AMOUNT:
        return [OUT_OF_RANGE]
    if len(fund.deals) >= MOST_DEALS:
        return [AS_MANY_AS_MAY_BE]
    if deal.kind == UNITS_OUT and deal.amount > fund.units_left(deal.holder):
        return [MORE_THAN_THERE_IS]
    fund.deals.append(deal)
    return [len(fund.deals)]


def answer_close(fund, told):
    if len(fund.days) >= MOST_DAYS:
        return [AS_MANY_AS_MAY_BE]
    reckoning = fund.reckon_today()
    if not reckoning.has_price():
        return [NO_PRICE]
    fund.close_today(reckoning)
    return [len(fund.days), reckoning.value, reckoning.units, reckoning.fee]


def answer_fix(fund, told):
    number = told[0]
    thing = told[1]
    quote = told[2]
    if not (is_thing(thing) and is_quote(quote)):
        return [OUT_OF_RANGE]
    refusal = day_refusal(fund, number)
    if refusal < 0:
        return [refusal]
    place = (number, thing)
    if place not in fund.corrections and len(fund.corrections) >= MOST_CORRECTIONS:
        return [AS_MANY_AS_MAY_BE]
    fund.corrections[place] = quote
    return [len(fund.corrections)]


def answer_putright(fund, told):
    done = fund.put_right()
    return [done.wrong_days, done.owed, done.fees]


def answer_day(fund, told):
    number = told[0]
    refusal = day_refusal(fund, number)
    if refusal < 0:
        return [refusal]
    day = fund.days[number - 1]
    published = day.reckoning
    return [published.value, published.units, published.fee, day.standing.fee, len(day.deals)]


def answer_right(fund, told):
    number = told[0]
    refusal = day_refusal(fund, number)
    if refusal < 0:
        return [refusal]
    right = fund.history()[number - 1]
    return [1 if right.wrong else 0, right.reckoning.value, right.reckoning.units, right.result.fee]


def answer_outcome(fund, told):
    number = told[0]
    place = told[1]
    if not 1 <= place <= MOST_DEALS:
        return [OUT_OF_RANGE]
    refusal = day_refusal(fund, number)
    if refusal < 0:
        return [refusal]
    day = fund.days[number - 1]
    if place > len(day.deals):
        return [NOT_THERE]
    right = fund.history()[number - 1]
    answer = [day.deals[place - 1].holder]
    for result in (day.published, day.standing, right.result):
        outcome = result.outcomes[place - 1]
        answer.extend([outcome.money, outcome.units])
    return answer


def answer_holder(fund, told):
    holder = told[0]
    if not is_holder(holder):
        return [OUT_OF_RANGE]
    stands = fund.standing_book().units_of(holder)
    should_be = fund.right_book().units_of(holder)
    return [0, stands, should_be, fund.balances[holder - 1], fund.owed_to_each()[holder - 1]]


def book_answer(book):
    return [0, book.cash] + book.units


def answer_book(fund, told):
    return book_answer(fund.standing_book())


def answer_rightbook(fund, told):
    return book_answer(fund.right_book())


def answer_owed(fund, told):
    return [0] + fund.owed_to_each()


def answer_wrongs(fund, told):
    wrong = numbers_of_wrong_days(fund.history())
    return [len(wrong)] + wrong


def answer_counts(fund, told):
    return [len(fund.days), len(fund.deals), len(fund.corrections)]


# By the call's number: what answers it, how many whole numbers it has, how many rows behind them.
CALLS = (
    (answer_begin, 3, 2),
    (answer_quote, 2, 0),
    (answer_order, 3, 0),
    (answer_close, 0, 0),
    (answer_fix, 3, 0),
    (answer_putright, 0, 0),
    (answer_day, 1, 0),
    (answer_right, 1, 0),
    (answer_outcome, 2, 0),
    (answer_holder, 1, 0),
    (answer_book, 0, 0),
    (answer_rightbook, 0, 0),
    (answer_owed, 0, 0),
    (answer_wrongs, 0, 0),
    (answer_counts, 0, 0),
)


class CallReader:
    """Goes through a list of calls without changing it."""

    def __init__(self, calls):
        self.calls = calls
        self.place = 0

    def at_end(self):
        return self.place >= len(self.calls)

    def take_number(self):
        number = self.calls[self.place]
        self.place += 1
        return number

    def take_several(self, length):
        several = self.calls[self.place:self.place + length]
        self.place += length
        return several

    def take_row(self):
        return self.take_several(self.take_number())


def answers(calls):
    """For each call, in order, how many numbers are answered, then these."""
    fund = new_fund()
    reader = CallReader(calls)
    given = []
    while not reader.at_end():
        call = CALLS[reader.take_number()]
        told = reader.take_several(call[1])
        for turn in range(call[2]):
            told.append(reader.take_row())
        answer_call = call[0]
        answer = answer_call(fund, told)
        given.append(len(answer))
        given.extend(answer)
    return given
