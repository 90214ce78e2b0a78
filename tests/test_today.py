"""quote, order, close, day."""

import unittest

from tests.lines import (
    COIN, LEAST, MOST, NO_THINGS, ONE_THING, ask, begin, close, day, fix, last, money_in, of_holders, order, putright,
    quote, refusal, right, units_out,
)

TRILLION = 10 ** 12
SOME = [
    begin(cash=1000, quantities=[2, 0, 0, 0, 0, 1], units=of_holders(1000, 20)),
    quote(1, 500 * COIN), money_in(2, 300), units_out(1, 101), close(), quote(6, 3 * COIN), units_out(2, 10),
]


class Quote(unittest.TestCase):
    def test_answers_the_quote_before(self):
        told = [quote(3, 8), quote(3, 5), quote(4, 1), quote(3, 0), quote(3, 2)]
        self.assertEqual(ask(told), [[0], [8], [0], [5], [0]])

    def test_each_thing_has_its_own(self):
        told = [quote(thing, thing) for thing in range(1, 7)]
        self.assertEqual(ask(told + told)[6:], [[thing] for thing in range(1, 7)])

    def test_stays_on_later_days(self):
        told = [begin(), quote(1, 50 * COIN), close(), close(), quote(1, 60 * COIN), close()]
        self.assertEqual(ask(told)[2:], [[1, 50, 1000, 0], [2, 50, 1000, 0], [50 * COIN], [3, 60, 1000, 0]])

    def test_closed_days_keep_theirs(self):
        told = [begin(), quote(1, 50 * COIN), close(), quote(1, 60 * COIN), right(1)]
        self.assertEqual(last(told), [0, 50, 1000, 0])

    def test_ends_of_the_ranges(self):
        self.assertEqual(ask([quote(1, TRILLION), quote(1, 0), quote(6, TRILLION), quote(6, 0)]),
                         [[0], [TRILLION], [0], [TRILLION]])

    def test_refusals(self):
        for thing in (0, 7, -1, LEAST, MOST):
            self.assertEqual(refusal(self, SOME, quote(thing, 5)), -1)
        for price in (-1, TRILLION + 1, LEAST, MOST):
            self.assertEqual(refusal(self, SOME, quote(1, price)), -1)


class Order(unittest.TestCase):
    def test_answers_how_many_there_are(self):
        told = [money_in(1, 5), units_out(1, 5), money_in(10, TRILLION)]
        self.assertEqual(ask(told), [[1], [2], [3]])

    def test_at_most_ten_a_day(self):
        ten = [money_in(holder, 1) for holder in range(1, 11)]
        self.assertEqual(last(ten), [10])
        self.assertEqual(refusal(self, ten, money_in(1, 1)), -8)
        self.assertEqual(last(ten + [close(), money_in(1, 1)]), [1])

    def test_ends_of_the_ranges(self):
        much = begin(cash=1, units=of_holders(TRILLION, TRILLION))
        self.assertEqual(ask([much, units_out(1, TRILLION), units_out(2, 1), money_in(10, 1)])[1:], [[1], [2], [3]])

    def test_numbers_out_of_range(self):
        for holder in (0, 11, -1, LEAST, MOST):
            self.assertEqual(refusal(self, SOME, money_in(holder, 1)), -1)
            self.assertEqual(refusal(self, SOME, units_out(holder, 1)), -1)
        for kind in (-1, 2, LEAST, MOST):
            self.assertEqual(refusal(self, SOME, order(1, kind, 1)), -1)
        for amount in (0, -1, TRILLION + 1, LEAST, MOST):
            self.assertEqual(refusal(self, SOME, money_in(1, amount)), -1)
            self.assertEqual(refusal(self, SOME, units_out(1, amount)), -1)

    def test_more_units_than_there_are(self):
        told = [begin(units=of_holders(100, 50))]
        self.assertEqual(last(told + [units_out(1, 100)]), [1])
        self.assertEqual(refusal(self, told, units_out(1, 101)), -7)
        self.assertEqual(refusal(self, told, units_out(3, 1)), -7)

    def test_with_all_asked_back_today(self):
        told = [begin(units=of_holders(100, 50)), units_out(1, 60), units_out(2, 50), money_in(1, 1000)]
        self.assertEqual(last(told + [units_out(1, 40)]), [4])
        self.assertEqual(refusal(self, told, units_out(1, 41)), -7)
        self.assertEqual(refusal(self, told, units_out(2, 1)), -7)

    def test_money_in_needs_no_units(self):
        self.assertEqual(last([begin(units=of_holders(1)), money_in(9, TRILLION)]), [1])

    def test_only_today_counts(self):
        told = [begin(cash=150, units=of_holders(100, 50)), units_out(1, 60), money_in(1, 7), close()]
        self.assertEqual(last(told + [units_out(1, 47)]), [1])
        self.assertEqual(last(told + [units_out(1, 48)]), [-7])

    def test_goes_by_the_book_that_stands(self):
        # 100 coins came in at 1 a unit; at the right 2 a unit they bring 50 units.
        told = [begin(quantities=ONE_THING, units=of_holders(100)), quote(1, 100 * COIN), money_in(2, 100), close(),
                fix(1, 1, 200 * COIN)]
        self.assertEqual(last(told + [units_out(2, 100)]), [1])
        self.assertEqual(last(told + [putright(), units_out(2, 51)]), [-7])
        self.assertEqual(last(told + [putright(), units_out(2, 50)]), [1])

    def test_order_of_the_refusals(self):
        ten = [begin(units=of_holders(5))] + [money_in(1, 1)] * 10
        self.assertEqual(refusal(self, ten, order(1, 2, 6)), -1)
        self.assertEqual(refusal(self, ten, units_out(0, 6)), -1)
        self.assertEqual(refusal(self, ten, units_out(1, TRILLION + 1)), -1)
        self.assertEqual(refusal(self, ten, units_out(1, 6)), -8)


class Close(unittest.TestCase):
    def test_reckoning_and_deals(self):
        told = SOME[:5] + [close()]
        # 300 coins bring 300 * 1020 // 2000 = 153 units; 101 units bring 101 * 2000 // 1020 = 198 coins.
        self.assertEqual(ask(told)[4:], [[1, 2000, 1020, 0], [2, 1000 + 1000 + 300 - 198, 1020 + 153 - 101, 0]])

    def test_things_are_added_up_ahead_of_rounding(self):
        told = [begin(quantities=[1, 1, 0, 0, 0, 0]), quote(1, 1500000), quote(2, 1500000)]
        self.assertEqual(last(told + [close()]), [1, 3, 1000, 0])
        self.assertEqual(last(told + [quote(2, 1499999), close()]), [1, 2, 1000, 0])

    def test_fee(self):
        for cash, fee in ((364, 0), (365, 1), (729, 1), (730, 2), (36500, 100)):
            told = begin(cash=cash, rate=1000000, quantities=NO_THINGS)
            self.assertEqual(last([told, close()]), [1, cash - fee, 1000, fee])

    def test_small_rate(self):
        for cash, fee in ((364999999, 0), (365000000, 1)):
            self.assertEqual(last([begin(cash=cash, rate=1), close()]), [1, cash - fee, 1000, fee])

    def test_fee_goes_from_the_cash(self):
        told = [begin(cash=36500, rate=1000000), close(), close()]
        self.assertEqual(last(told), [2, 36400 - 99, 1000, 99])

    def test_deals_at_the_value_behind_the_fee(self):
        # 2 units of 1000 at the value 36400 are 72 coins, at the gross value 73.
        told = [begin(cash=36500, rate=1000000), units_out(1, 2), close(), close()]
        self.assertEqual(last(told), [2, 36328 - 99, 998, 99])

    def test_all_deals_of_a_day_have_one_price(self):
        told = [begin(cash=10, units=of_holders(10)), money_in(2, 100), money_in(3, 100), units_out(1, 10), close()]
        self.assertEqual(last(told + [close()]), [2, 200, 200, 0])
        self.assertEqual(last(told + [units_out(3, 100)]), [1])
        self.assertEqual(last(told + [units_out(3, 101)]), [-7])

    def test_units_made_are_rounded_down(self):
        told = [begin(cash=3, units=of_holders(2)), money_in(2, 4), close()]
        self.assertEqual(last(told + [close()]), [2, 7, 4, 0])
        told = [begin(cash=3, units=of_holders(1)), money_in(2, 2), close()]
        self.assertEqual(last(told + [close()]), [2, 5, 1, 0])

    def test_money_paid_is_rounded_down(self):
        told = [begin(cash=5, units=of_holders(3)), units_out(1, 2), close()]
        # 10 over 3 is 3 coins, not 4: rounded down before it leaves the fund.
        self.assertEqual(last(told + [close()]), [2, 2, 1, 0])

    def test_no_deals_today_any_more(self):
        told = [begin(cash=100, units=of_holders(100)), money_in(2, 50), close(), close(), day(2)]
        self.assertEqual(ask(told)[3:], [[2, 150, 150, 0], [150, 150, 0, 0, 0]])

    def test_value_below_1(self):
        self.assertEqual(last([begin(cash=1), close()]), [1, 1, 1000, 0])
        self.assertEqual(refusal(self, [begin(), money_in(1, 5), quote(1, 999999)], close(), 0), -9)
        owing = [begin(), quote(1, 1000 * COIN), units_out(1, 500), close()]
        self.assertEqual(last(owing + [quote(1, 501 * COIN), close()]), [2, 1, 500, 0])
        self.assertEqual(refusal(self, owing + [quote(1, 500 * COIN)], close(), 1), -9)
        self.assertEqual(refusal(self, owing + [quote(1, 0)], close(), 1), -9)

    def test_units_below_1(self):
        told = [begin(units=of_holders(3)), quote(1, 10 * COIN), units_out(1, 3), close(), quote(1, 50 * COIN)]
        self.assertEqual(refusal(self, told, close(), 1), -9)

    def test_at_most_60_days(self):
        sixty = [begin(cash=60 * 365, rate=1000000)] + [close()] * 60
        self.assertEqual(last(sixty)[0], 60)
        self.assertEqual(refusal(self, sixty, close(), 60), -8)
        self.assertEqual(last(sixty + [day(60)])[:3], last(sixty)[1:])

    def test_full_ahead_of_no_value(self):
        sixty = [begin(), quote(1, COIN)] + [close()] * 60
        self.assertEqual(last(sixty + [quote(1, 0), close()]), [-8])

    def test_goes_by_the_book_that_stands(self):
        told = [begin(units=of_holders(100)), quote(1, 100 * COIN), money_in(2, 100), close(), fix(1, 1, 200 * COIN)]
        self.assertEqual(last(told + [close()]), [2, 200, 200, 0])
        self.assertEqual(last(told + [putright(), close()]), [2, 200, 150, 0])


class Day(unittest.TestCase):
    def test_what_was_published_and_the_fee_that_stands(self):
        told = [begin(cash=365, rate=1000000), money_in(1, 7), units_out(1, 8), quote(1, 730 * COIN), close()]
        self.assertEqual(last(told + [day(1)]), [1092, 1000, 3, 3, 2])
        told += [fix(1, 1, 1095 * COIN)]
        self.assertEqual(last(told + [day(1)]), [1092, 1000, 3, 3, 2])
        self.assertEqual(last(told + [putright(), day(1)]), [1092, 1000, 3, 4, 2])

    def test_deals_of_today_are_no_days_deals(self):
        self.assertEqual(last([close(), money_in(1, 1), day(1)]), [1000, 1000000, 0, 0, 0])

    def test_ten_deals(self):
        self.assertEqual(last([money_in(1, 1)] * 10 + [close(), day(1)]), [1000, 1000000, 0, 0, 10])

    def test_refusals(self):
        for number in (0, 61, -1, LEAST, MOST):
            self.assertEqual(refusal(self, SOME, day(number)), -1)
        for number in (2, 3, 60):
            self.assertEqual(refusal(self, SOME, day(number)), -4)
        self.assertEqual(last([day(1)]), [-4])


if __name__ == "__main__":
    unittest.main()
