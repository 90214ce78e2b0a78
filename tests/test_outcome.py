"""outcome."""

import unittest

from tests.lines import (
    COIN, LEAST, MOST, ONE_THING, ask, begin, close, fix, last, money_in, of_holders, outcome, putright, quote, refusal,
    units_out,
)

TRILLION = 10 ** 12
# Published at 2000 over 1000, holder 1 with five of the ten deals: the deal, what it brings, what it brings at 1500.
TEN = [
    (money_in(1, 101), (101, 50), (101, 67)),
    (units_out(1, 7), (-14, -7), (-10, -7)),
    (money_in(1, 1), (1, 0), (1, 0)),
    (units_out(2, 400), (-800, -400), (-600, -400)),
    (units_out(1, 1), (-2, -1), (-1, -1)),
    (money_in(10, TRILLION), (TRILLION, 500000000000), (TRILLION, 666666666666)),
    (money_in(3, 3), (3, 1), (3, 2)),
    (units_out(1, 592), (-1184, -592), (-888, -592)),
    (money_in(2, 2), (2, 1), (2, 1)),
    (money_in(10, 5), (5, 2), (5, 3)),
]
TEN_DEALS = [begin(cash=1000, units=of_holders(600, 400)), quote(1, 1000 * COIN)] + [row[0] for row in TEN] + [close()]
LOWER = fix(1, 1, 500 * COIN)
TWO_DAYS = [begin(cash=1000, quantities=[2, 0, 0, 0, 0, 0]), quote(1, 500 * COIN), money_in(2, 300), units_out(1, 101),
            close(), close(), money_in(4, 7), fix(1, 1, 750 * COIN)]


def outcomes_behind(calls, number=1, most=10):
    return ask(calls + [outcome(number, place) for place in range(1, most + 1)])[len(calls):]


def by_rows(stands, right):
    """The answers of TEN; stands and right are the place in a row of what is asked for."""
    return [[row[0][1], *row[1], *row[stands], *row[right]] for row in TEN]


class Outcome(unittest.TestCase):
    def test_ten_deals(self):
        self.assertEqual(outcomes_behind(TEN_DEALS), by_rows(1, 1))

    def test_behind_a_correction(self):
        self.assertEqual(outcomes_behind(TEN_DEALS + [LOWER]), by_rows(1, 2))

    def test_behind_putright(self):
        self.assertEqual(outcomes_behind(TEN_DEALS + [LOWER, putright()]), by_rows(2, 2))

    def test_behind_another_correction(self):
        back = fix(1, 1, 1000 * COIN)
        self.assertEqual(outcomes_behind(TEN_DEALS + [LOWER, putright(), back]), by_rows(2, 1))
        self.assertEqual(outcomes_behind(TEN_DEALS + [LOWER, putright(), back, putright()]), by_rows(1, 1))

    def test_each_day_has_its_own(self):
        told = [begin(cash=1000), money_in(2, 5), close(), money_in(3, 6), units_out(2, 4), close()]
        self.assertEqual(outcomes_behind(told, 1, 2), [[2, 5, 5, 5, 5, 5, 5], [-4]])
        self.assertEqual(outcomes_behind(told, 2, 3), [[3, 6, 6, 6, 6, 6, 6], [2, -4, -4, -4, -4, -4, -4], [-4]])

    def test_a_later_day_follows_a_correction(self):
        # Day 1 makes 50 units instead of 100; so on day 2, at 200 over 150 and not over 200, 30 coins are 22 units.
        told = [begin(units=of_holders(100)), quote(1, 100 * COIN), money_in(2, 100), close(), money_in(3, 30),
                units_out(1, 30), close(), fix(1, 1, 200 * COIN)]
        self.assertEqual(outcomes_behind(told, 2, 2), [[3, 30, 30, 30, 30, 30, 22], [1, -30, -30, -30, -30, -40, -30]])

    def test_paid_is_rounded_down_ahead_of_its_sign(self):
        told = [begin(cash=5, units=of_holders(3)), units_out(1, 2), close(), fix(1, 1, 3 * COIN)]
        self.assertEqual(outcomes_behind(told, 1, 1), [[1, -3, -2, -3, -2, -5, -2]])

    def test_60_days_with_ten_deals_on_the_last(self):
        told = [begin(cash=1000)] + [close()] * 59 + [money_in(holder, holder) for holder in range(1, 11)] + [close()]
        self.assertEqual(outcomes_behind(told, 60), [[holder] + [holder] * 6 for holder in range(1, 11)])
        # Right at 2000 over 1000.
        told += [fix(60, 1, 1000 * COIN), putright()]
        self.assertEqual(outcomes_behind(told, 60), [[n, n, n, n, n // 2, n, n // 2] for n in range(1, 11)])


class StaysAsPublished(unittest.TestCase):
    def test_just_at_the_limit_and_beside_it(self):
        # A hundredth of the right value, 1000, is 10.
        for published, paid, right in ((1010, -505, -500), (1009, -504, -504), (990, -495, -500), (991, -495, -495)):
            told = [begin(limit=10000), quote(1, published * COIN), units_out(1, 500), close(), fix(1, 1, 1000 * COIN)]
            self.assertEqual(last(told + [outcome(1, 1)]), [1, paid, -500, paid, -500, right, -500])
            self.assertEqual(last(told + [putright(), outcome(1, 1)]), [1, paid, -500, right, -500, right, -500])

    def test_right_value_below_1(self):
        told = [begin(), quote(1, 1000 * COIN), units_out(1, 500), close(), money_in(2, 100), close()]
        for corrected in (500, 499, 0):
            found = last(told + [fix(2, 1, corrected * COIN), putright(), outcome(2, 1)])
            self.assertEqual(found, [2, 100, 100, 100, 100, 100, 100])
        self.assertEqual(last(told + [fix(2, 1, 501 * COIN), outcome(2, 1)]), [2, 100, 100, 100, 100, 100, 50000])

    def test_right_units_below_1(self):
        # Right: 90 coins make 20 (or 10) units on day 1, so behind 30 (or 80) units out there are 0 (or -60).
        for corrected, given_back in ((35, 30), (80, 80)):
            told = [begin(cash=10, units=of_holders(10)), money_in(2, 90), close(), units_out(2, given_back), close(),
                    money_in(3, 50), close(), fix(1, 1, corrected * COIN), fix(3, 1, 1000 * COIN), putright()]
            self.assertEqual(last(told + [outcome(3, 1)]), [3, 50, 50, 50, 50, 50, 50])


class Refusals(unittest.TestCase):
    def test_k_out_of_range(self):
        for place in (0, 11, -1, LEAST, MOST):
            self.assertEqual(refusal(self, TWO_DAYS, outcome(1, place)), -1)

    def test_day_out_of_range(self):
        for number in (0, 61, -1, LEAST, MOST):
            self.assertEqual(refusal(self, TWO_DAYS, outcome(number, 1)), -1)

    def test_day_not_closed(self):
        # There's a deal today, but day 3 isn't closed.
        for number in (3, 4, 60):
            self.assertEqual(refusal(self, TWO_DAYS, outcome(number, 1)), -4)

    def test_no_such_deal(self):
        for number, place in ((1, 3), (1, 10), (2, 1), (2, 10)):
            self.assertEqual(refusal(self, TWO_DAYS, outcome(number, place)), -4)

    def test_k_is_asked_first(self):
        for place in (0, 11):
            self.assertEqual(refusal(self, TWO_DAYS, outcome(3, place)), -1)
            self.assertEqual(refusal(self, TWO_DAYS, outcome(2, place)), -1)

    def test_the_day_is_asked_ahead_of_the_deal(self):
        self.assertEqual(refusal(self, TWO_DAYS, outcome(0, 10)), -1)
        self.assertEqual(refusal(self, TWO_DAYS, outcome(61, 10)), -1)

    def test_no_closed_day(self):
        told = [begin(quantities=ONE_THING), money_in(1, 1)]
        self.assertEqual(refusal(self, told, outcome(1, 1), 0), -4)
        self.assertEqual(refusal(self, told, outcome(60, 10), 0), -4)
        self.assertEqual(refusal(self, told, outcome(1, 11), 0), -1)
        self.assertEqual(refusal(self, told, outcome(61, 1), 0), -1)

    def test_60_closed_days(self):
        told = [begin(cash=1000)] + [close()] * 59 + [money_in(1, 1), close()]
        self.assertEqual(refusal(self, told, outcome(60, 2), 60), -4)
        self.assertEqual(refusal(self, told, outcome(61, 1), 60), -1)
        self.assertEqual(last(told + [outcome(60, 1)]), [1] * 7)


if __name__ == "__main__":
    unittest.main()
