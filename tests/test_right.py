"""fix, right, putright."""

import unittest

from tests.lines import (
    COIN, LEAST, MOST, ask, begin, close, day, fix, last, money_in, of_holders, putright, quote, refusal, right,
    units_out,
)

TRILLION = 10 ** 12
# Day 1: at 2000 over 1000, 300 coins bring 150 units, 101 units bring 202 coins. Day 2: no deals.
TWO_DAYS = [
    begin(cash=1000, quantities=[2, 0, 0, 0, 0, 0]), quote(1, 500 * COIN), money_in(2, 300), units_out(1, 101),
    close(), close(),
]
# Right, at 2500 over 1000: 120 units and 252 coins (252.5 rounded down).
FIXED = TWO_DAYS + [fix(1, 1, 750 * COIN)]


def one_day(published, corrected, limit=0, rate=0, units=1000):
    """A day at the published value in coins, with a correction to another value."""
    return [begin(limit=limit, rate=rate, units=of_holders(units)), quote(1, published * COIN), close(),
            fix(1, 1, corrected * COIN)]


class Fix(unittest.TestCase):
    def test_answers_how_many_there_are(self):
        told = [fix(1, 1, 5), fix(2, 1, 5), fix(1, 2, 5), fix(2, 1, 6), fix(1, 6, 0)]
        self.assertEqual(ask(TWO_DAYS + told)[len(TWO_DAYS):], [[1], [2], [3], [3], [4]])

    def test_takes_the_place_of_one_before(self):
        told = one_day(100, 300) + [fix(1, 1, 200 * COIN)]
        self.assertEqual(ask(told + [right(1)])[-2:], [[1], [1, 200, 1000, 0]])

    def test_back_to_what_was_published(self):
        told = one_day(100, 300) + [putright(), fix(1, 1, 100 * COIN)]
        self.assertEqual(ask(told + [right(1), putright()])[-3:], [[1], [0, 100, 1000, 0], [0, 0, 0]])

    def test_only_that_day_and_thing(self):
        told = [begin(quantities=[1, 1, 0, 0, 0, 0]), quote(1, 7 * COIN), quote(2, 9 * COIN), close(), close(), close(),
                fix(2, 2, 30 * COIN)]
        self.assertEqual(ask(told + [right(1), right(2), right(3)])[-3:],
                         [[0, 16, 1000, 0], [1, 37, 1000, 0], [0, 16, 1000, 0]])

    def test_leaves_todays_quote_alone(self):
        self.assertEqual(last(one_day(100, 300) + [quote(1, 0)]), [100 * COIN])

    def test_ends_of_the_ranges(self):
        told = [begin(cash=1, quantities=[1000000, 0, 0, 0, 0, 1])] + [close()] * 60
        told += [fix(1, 1, TRILLION), fix(60, 6, TRILLION), fix(60, 1, 0)]
        self.assertEqual(ask(told + [right(1), right(60)])[-5:],
                         [[1], [2], [3], [1, TRILLION + 1, 1000, 0], [1, 1000001, 1000, 0]])

    def test_at_most_60(self):
        full = [close()] * 11 + [fix(number, thing, 5) for number in range(1, 11) for thing in range(1, 7)]
        self.assertEqual(last(full), [60])
        self.assertEqual(refusal(self, full, fix(11, 1, 5), 11), -8)
        self.assertEqual(last(full + [fix(10, 6, 9)]), [60])
        self.assertEqual(last(full + [putright(), fix(11, 1, 5)]), [-8])

    def test_numbers_out_of_range(self):
        for thing in (0, 7, -1, LEAST, MOST):
            self.assertEqual(refusal(self, FIXED, fix(1, thing, 5)), -1)
        for price in (-1, TRILLION + 1, LEAST, MOST):
            self.assertEqual(refusal(self, FIXED, fix(1, 1, price)), -1)
        for number in (0, 61, -1, LEAST, MOST):
            self.assertEqual(refusal(self, FIXED, fix(number, 1, 5)), -1)

    def test_day_not_closed(self):
        for number in (3, 60):
            self.assertEqual(refusal(self, FIXED, fix(number, 1, 5)), -4)

    def test_order_of_the_refusals(self):
        self.assertEqual(refusal(self, FIXED, fix(3, 7, 5)), -1)
        self.assertEqual(refusal(self, FIXED, fix(3, 1, -1)), -1)
        full = [close()] * 10 + [fix(number, thing, 5) for number in range(1, 11) for thing in range(1, 7)]
        self.assertEqual(refusal(self, full, fix(11, 1, 5), 10), -4)
        self.assertEqual(refusal(self, full, fix(61, 1, 5), 10), -1)
        self.assertEqual(refusal(self, full, fix(11, 1, -5), 10), -1)


class Right(unittest.TestCase):
    def test_as_published_without_corrections(self):
        self.assertEqual(ask(TWO_DAYS + [right(1), right(2)])[-2:], [[0, 2000, 1000, 0], [0, 2098, 1049, 0]])

    def test_later_days_follow(self):
        self.assertEqual(ask(FIXED + [right(1), right(2)])[-2:], [[1, 2500, 1000, 0], [1, 2048, 1019, 0]])

    def test_earlier_days_do_not(self):
        told = TWO_DAYS + [fix(2, 1, 600 * COIN)]
        self.assertEqual(ask(told + [right(1), right(2)])[-2:], [[0, 2000, 1000, 0], [1, 2298, 1049, 0]])

    def test_the_same_behind_putright(self):
        self.assertEqual(ask(FIXED + [putright(), right(1), right(2)])[-2:], ask(FIXED + [right(1), right(2)])[-2:])

    def test_right_fee(self):
        self.assertEqual(last(one_day(365, 730, rate=1000000) + [right(1)]), [1, 728, 1000, 2])

    def test_the_same_value_by_another_fee_is_not_wrong(self):
        # 365 less a fee of 1 is 364 again: done again, since the limit is 0, but not wrong.
        told = one_day(364, 365, rate=1000000)
        self.assertEqual(ask(told + [right(1), putright(), day(1)])[-3:],
                         [[0, 364, 1000, 1], [0, 0, -1], [364, 1000, 0, 1, 0]])

    def test_no_difference_is_below_a_limit(self):
        told = one_day(364, 365, rate=1000000, limit=1)
        self.assertEqual(ask(told + [right(1), putright(), day(1)])[-3:],
                         [[0, 364, 1000, 0], [0, 0, 0], [364, 1000, 0, 0, 0]])

    def test_just_at_the_limit_and_beside_it(self):
        # A hundredth of the right value, 1000, is 10.
        for published, wrong in ((1010, 1), (1009, 0), (1011, 1), (990, 1), (991, 0), (989, 1)):
            told = one_day(published, 1000, limit=10000)
            self.assertEqual(ask(told + [right(1), putright()])[-2:], [[wrong, 1000, 1000, 0], [wrong, 0, 0]])

    def test_the_limit_is_of_the_right_value(self):
        for corrected, wrong in ((990, 1), (991, 0), (1010, 0), (1011, 1)):
            self.assertEqual(last(one_day(1000, corrected, limit=10000) + [right(1)]), [wrong, corrected, 1000, 0])

    def test_least_and_greatest_limit(self):
        for published, limit, wrong in ((999999, 1, 1), (1000000, 1, 0), (999999, 2, 0)):
            self.assertEqual(last(one_day(published, 1000000, limit=limit) + [right(1)]), [wrong, 1000000, 1000, 0])
        for published, wrong in ((199, 0), (200, 1), (1, 0)):
            self.assertEqual(last(one_day(published, 100, limit=1000000) + [right(1)]), [wrong, 100, 1000, 0])

    def test_fee_of_a_day_below_the_limit_is_the_published_one(self):
        told = one_day(36500, 36865, limit=20000, rate=1000000)
        self.assertEqual(ask(told + [right(1), putright()])[-2:], [[0, 36764, 1000, 100], [0, 0, 0]])

    def test_deals_below_the_limit_stay(self):
        told = [begin(limit=20000, units=of_holders(1000, 100)), quote(1, 1100 * COIN), units_out(1, 500), close(),
                fix(1, 1, 1111 * COIN), putright(), close()]
        # A difference of 11 in 1111 is below two hundredths: the 500 units brought 500 coins and keep them.
        self.assertEqual(ask(told)[-2:], [[0, 0, 0], [2, 600, 600, 0]])

    def test_limit_by_value_and_units(self):
        # Day 1 put right makes 50 units instead of 100. Day 2 is at 200 over 200, right 200 over 150: v U = 40000,
        # V u = 30000, so the difference is 10000 and a limit of 250000 is just met.
        for limit, wrong in ((250000, 1), (250001, 0)):
            told = [begin(limit=limit, units=of_holders(100)), quote(1, 100 * COIN), money_in(2, 100), close(), close(),
                    fix(1, 1, 200 * COIN), right(2)]
            self.assertEqual(last(told), [wrong, 200, 150, 0])

    def test_wrong_by_the_units_alone(self):
        told = [begin(units=of_holders(100)), quote(1, 100 * COIN), money_in(2, 100), close(), close(),
                fix(1, 1, 200 * COIN)]
        self.assertEqual(ask(told + [right(1), right(2), putright()])[-3:],
                         [[1, 200, 100, 0], [1, 200, 150, 0], [2, 0, 0]])

    def test_value_0(self):
        told = [begin(rate=1000000), quote(1, 365 * COIN), units_out(1, 500), close(), fix(1, 1, 0)]
        self.assertEqual(ask(told + [right(1), putright(), day(1)])[-3:],
                         [[0, 0, 1000, 1], [0, 0, 0], [364, 1000, 1, 1, 1]])

    def test_value_1(self):
        told = [begin(), quote(1, 1000 * COIN), units_out(1, 1000), close(), fix(1, 1, COIN)]
        self.assertEqual(ask(told + [right(1), putright()])[-2:], [[1, 1, 1000, 0], [1, -999, 0]])

    def test_value_below_0_has_no_fee(self):
        told = [begin(rate=1000000), quote(1, 1000 * COIN), units_out(1, 500), close(), close(), fix(2, 1, 100 * COIN)]
        # Day 1: 998 behind a fee of 2; 499 are paid. Behind it the cash is -501.
        self.assertEqual(ask(told + [right(2), putright()])[-2:], [[0, -401, 500, 1], [0, 0, 0]])

    def test_units_below_1(self):
        told = [begin(cash=10, units=of_holders(10)), money_in(2, 90), close(), units_out(2, 80), close(), close(),
                fix(1, 1, 80 * COIN)]
        # Right: 90 coins at 90 over 10 make 10 units; then 80 of 20 units are 400 of 100 coins.
        self.assertEqual(ask(told + [right(1), right(2), right(3)])[-3:],
                         [[1, 90, 10, 0], [1, 100, 20, 0], [0, -300, -60, 0]])
        self.assertEqual(last(told + [fix(3, 1, 400 * COIN), right(3)]), [0, 100, -60, 0])
        behind = told + [putright()]
        self.assertEqual(last(behind), [2, 320, 0])
        self.assertEqual(last(behind + [close()]), [-9])
        self.assertEqual(last(behind + [quote(1, 400 * COIN), close()]), [-9])
        self.assertEqual(last(behind + [units_out(2, 1)]), [-7])
        self.assertEqual(ask(behind + [units_out(1, 11), units_out(1, 10)])[-2:], [[-7], [1]])

    def test_units_0(self):
        # Right: 90 coins at 45 over 10 make 20 units, so behind 30 units out there are none.
        told = [begin(cash=10, units=of_holders(10)), money_in(2, 90), close(), units_out(2, 30), close(), close(),
                fix(1, 1, 35 * COIN), fix(3, 1, 1000 * COIN)]
        self.assertEqual(ask(told + [right(2), right(3)])[-2:], [[1, 100, 30, 0], [0, 1000, 0, 0]])

    def test_refusals(self):
        for number in (0, 61, -1, LEAST, MOST):
            self.assertEqual(refusal(self, FIXED, right(number)), -1)
        for number in (3, 60):
            self.assertEqual(refusal(self, FIXED, right(number)), -4)


class PutRight(unittest.TestCase):
    def test_nothing_to_do(self):
        self.assertEqual(last([putright()]), [0, 0, 0])
        self.assertEqual(last(TWO_DAYS + [putright()]), [0, 0, 0])

    def test_what_was_owed(self):
        self.assertEqual(last(FIXED + [putright()]), [2, 50, 0])

    def test_what_holders_owe_is_below_0(self):
        # At 1600 over 1000 the 101 units bring 161 coins, not 202.
        self.assertEqual(last(TWO_DAYS + [fix(1, 1, 300 * COIN), putright()]), [2, -41, 0])

    def test_nothing_is_owed_twice(self):
        self.assertEqual(last(FIXED + [putright(), putright()]), [2, 0, 0])

    def test_the_right_book_stands(self):
        told = FIXED + [putright()]
        self.assertEqual(last(told + [close()]), [3, 2048, 1019, 0])
        self.assertEqual(ask(told + [units_out(2, 121), units_out(2, 120)])[-2:], [[-7], [1]])
        self.assertEqual(ask(told + [units_out(1, 900), units_out(1, 899)])[-2:], [[-7], [1]])

    def test_what_was_published_stays(self):
        self.assertEqual(ask(FIXED + [putright(), day(1), day(2)])[-2:], [[2000, 1000, 0, 0, 2], [2098, 1049, 0, 0, 0]])

    def test_fees(self):
        told = one_day(365, 1095, rate=1000000) + [putright(), day(1)]
        self.assertEqual(ask(told)[-2:], [[1, 0, -2], [364, 1000, 1, 3, 0]])
        self.assertEqual(last(told + [fix(1, 1, 364 * COIN), putright()]), [0, 0, 3])

    def test_today_stays(self):
        told = FIXED + [quote(1, 700 * COIN), money_in(3, 5), putright(), money_in(3, 6), quote(1, 700 * COIN)]
        self.assertEqual(ask(told)[-2:], [[2], [700 * COIN]])

    def test_corrections_stay(self):
        self.assertEqual(last(FIXED + [putright(), fix(2, 1, 5)]), [2])

    def test_60_days(self):
        deals = [money_in(2, 1000), units_out(1, 1)] + [money_in(3, 10)] * 3
        told = [begin(cash=1000)] + (deals + [close()]) * 60
        told += [fix(1, 1, 1000 * COIN), right(60), putright(), putright(), right(60), day(60), close()]
        # Published, a unit is a coin on each day; right, it's two coins on day 1 and less than two on the later ones.
        cash, units, owed = 1000, 1000, 0
        for number in range(60):
            value, before = cash + (1000 if number == 0 else 0), units
            paid = value // before
            owed += paid - 1
            cash += 1030 - paid
            units += 1000 * before // value + 3 * (10 * before // value) - 1
        published = 1000 + 59 * 1029
        self.assertEqual(ask(told)[-7:], [
            [1], [1, value, before, 0], [60, owed, 0], [60, 0, 0], [1, value, before, 0],
            [published, published, 0, 0, 5], [-8],
        ])


if __name__ == "__main__":
    unittest.main()
