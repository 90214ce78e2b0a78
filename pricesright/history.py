"""The closed days as they were published and as they stand, and the right history of them."""

from pricesright.bounds import HOLDERS, MILLION
from pricesright.reckoning import first_book, reckon, result_at


class ClosedDay:
    """What was published of a day, which never changes, and the result that stands now."""

    def __init__(self, quotes, deals, reckoning):
        self.quotes = quotes
        self.deals = deals
        self.reckoning = reckoning
        self.published = result_at(deals, reckoning)
        self.standing = self.published


class RightDay:
    """A day in the right history: its right reckoning, whether it's wrong, and its result there."""

    def __init__(self, reckoning, wrong, result):
        self.reckoning = reckoning
        self.wrong = wrong
        self.result = result


def book_behind(terms, days, results):
    """The book behind all these days, with one result for each."""
    book = first_book(terms)
    for day, result in zip(days, results):
        book.go_past(day.deals, result)
    return book


def right_quotes(quotes, number, corrections):
    return [corrections.get((number, thing), quote) for thing, quote in enumerate(quotes, start=1)]


def is_done_again(limit, published, right):
    if not right.has_price():
        return False
    # The two prices are compared crosswise, so that nothing is lost by a division.
    right_cross = right.value * published.units
    difference = abs(published.value * right.units - right_cross)
    return limit * right_cross <= MILLION * difference


def right_day(terms, book, day, quotes):
    right = reckon(terms, book, quotes)
    if not is_done_again(terms.limit, day.reckoning, right):
        return RightDay(right, False, day.published)
    wrong = right.value != day.reckoning.value or right.units != day.reckoning.units
    return RightDay(right, wrong, result_at(day.deals, right))


def right_history(terms, days, corrections):
    """A RightDay for each closed day; it goes by what was published alone, never by what stands."""
    book = first_book(terms)
    history = []
    for number, day in enumerate(days, start=1):
        right = right_day(terms, book, day, right_quotes(day.quotes, number, corrections))
        book.go_past(day.deals, right.result)
        history.append(right)
    return history


def numbers_of_wrong_days(history):
    return [number for number, right in enumerate(history, start=1) if right.wrong]


def add_owed(owed, day, right):
    for deal, stands, should_be in zip(day.deals, day.standing.outcomes, right.result.outcomes):
        owed[deal.holder - 1] += stands.money - should_be.money


def owed_to_holders(days, history):
    """What each holder is owed, the first holder first."""
    owed = [0] * HOLDERS
    for day, right in zip(days, history):
        add_owed(owed, day, right)
    return owed
