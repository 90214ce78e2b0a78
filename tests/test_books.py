"""holder, book, rightbook, owed."""

import unittest

from tests.lines import (
    COIN, LEAST, MOST, ask, begin, book, close, fix, holder, last, money_in, of_holders, owed, putright, quote, refusal,
    rightbook, units_out,
)

# Day 1: at 2000 over 1000, 300 coins bring 150 units, 101 units bring 202 coins. Day 2: no deals.
TWO_DAYS = [
    begin(cash=1000, quantities=[2, 0, 0, 0, 0, 0]), quote(1, 500 * COIN), money_in(2, 300), units_out(1, 101),
    close(), close(),
]
# Right, at 2500 over 1000: 120 units and 252 coins (252.5 rounded down).
FIXED = TWO_DAYS + [fix(1, 1, 750 * COIN)]
# 90 coins make 90 units at 10 over 10; right, at 90 over 10, 10 units. Then 80 of 100 units are 80 of 100 coins;
# right, 80 of 20 units are 400 of 100 coins.
BELOW_0 = [begin(cash=10, units=of_holders(10)), money_in(2, 90), close(), units_out(2, 80), close(),
           fix(1, 1, 80 * COIN)]
LOOK = [book(), rightbook(), owed()]


def look_behind(calls):
    return ask(calls + LOOK)[-3:]


def holders_behind(calls):
    return ask(calls + [holder(number) for number in range(1, 11)])[-10:]


class Book(unittest.TestCase):
    def test_first_cash_and_units(self):
        told = [begin(cash=77, units=list(range(1, 11)))]
        self.assertEqual(look_behind(told), [[0, 77] + list(range(1, 11))] * 2 + [[0] * 11])

    def test_behind_days(self):
        self.assertEqual(look_behind(TWO_DAYS), [[0, 1098] + of_holders(899, 150)] * 2 + [[0] * 11])

    def test_fees_go_from_the_cash(self):
        told = [begin(cash=36500, rate=1000000), close(), close()]
        self.assertEqual(last(told + [book()]), [0, 36500 - 100 - 99] + of_holders(1000))

    def test_today_is_not_in_it(self):
        told = TWO_DAYS + [quote(1, 9000 * COIN), money_in(3, 50), units_out(1, 9)]
        self.assertEqual(look_behind(told), look_behind(TWO_DAYS))

    def test_each_holder_has_their_own_units(self):
        told = [begin(cash=1000)] + [money_in(number, number) for number in range(1, 11)] + [close()]
        self.assertEqual(last(told + [book()]), [0, 1055, 1001] + list(range(2, 11)))

    def test_several_deals_of_one_holder(self):
        told = [begin(cash=1000)] + [money_in(5, 3), units_out(1, 2)] * 5 + [close()]
        self.assertEqual(last(told + [book()]), [0, 1005] + of_holders(990, 0, 0, 0, 15))

    def test_no_units_left(self):
        told = [begin(cash=30, units=of_holders(3)), units_out(1, 3), close()]
        self.assertEqual(last(told + [book()]), [0] * 12)

    def test_cash_below_0(self):
        told = [begin(), quote(1, 1000 * COIN), units_out(1, 500), close()]
        self.assertEqual(look_behind(told), [[0, -500] + of_holders(500)] * 2 + [[0] * 11])

    def test_great_numbers(self):
        told = [begin(cash=1, units=[10 ** 15] * 10)] + [money_in(1, 10 ** 12)] * 10 + [close()]
        self.assertEqual(last(told + [book()]), [0, 1 + 10 ** 13, 10 ** 15 + 10 ** 29] + [10 ** 15] * 9)

    def test_60_days(self):
        told = [begin(cash=1000)] + [money_in(2, 10), close()] * 60
        self.assertEqual(look_behind(told), [[0, 1600] + of_holders(1000, 600)] * 2 + [[0] * 11])
        # Right, day 60 was at 3180 over 1590: 10 coins made 5 units.
        told += [fix(60, 1, 1590 * COIN)]
        self.assertEqual(look_behind(told)[:2], [[0, 1600] + of_holders(1000, 600), [0, 1600] + of_holders(1000, 595)])


class RightBook(unittest.TestCase):
    def test_corrections_change_it_alone(self):
        self.assertEqual(look_behind(FIXED)[:2], [[0, 1098] + of_holders(899, 150), [0, 1048] + of_holders(899, 120)])

    def test_behind_putright_the_right_book_stands(self):
        self.assertEqual(look_behind(FIXED + [putright()]), [[0, 1048] + of_holders(899, 120)] * 2 + [[0] * 11])

    def test_right_fees(self):
        told = [begin(cash=365, rate=1000000), close(), close(), fix(1, 1, 365 * COIN)]
        # Day 1: a fee of 2 of 730 instead of 1 of 365. Day 2: 364 or 363 have no fee.
        self.assertEqual(look_behind(told)[:2], [[0, 364] + of_holders(1000), [0, 363] + of_holders(1000)])
        self.assertEqual(look_behind(told + [putright()])[:2], [[0, 363] + of_holders(1000)] * 2)

    def test_cash_and_units_below_0(self):
        self.assertEqual(look_behind(BELOW_0), [
            [0, 20] + of_holders(10, 10), [0, -300] + of_holders(10, -70), [0] + of_holders(0, 320),
        ])
        self.assertEqual(look_behind(BELOW_0 + [putright()]), [[0, -300] + of_holders(10, -70)] * 2 + [[0] * 11])

    def test_a_day_without_right_units_stays_as_published(self):
        told = BELOW_0[:-1] + [money_in(3, 20), close()] + BELOW_0[-1:]
        # Day 3 was at 20 over 20; its right units are -60.
        self.assertEqual(look_behind(told)[:2], [[0, 40] + of_holders(10, 10, 20), [0, -280] + of_holders(10, -70, 20)])

    def test_a_day_without_right_value_stays_as_published(self):
        told = [begin(cash=0, rate=1000000), quote(1, 3650 * COIN), units_out(1, 500), close(), fix(1, 1, 0)]
        # A fee of 10; 500 of 1000 units at 3640 are 1820.
        self.assertEqual(look_behind(told), [[0, -1830] + of_holders(500)] * 2 + [[0] * 11])
        self.assertEqual(look_behind(told + [putright()]), [[0, -1830] + of_holders(500)] * 2 + [[0] * 11])

    def test_just_at_the_limit_and_beside_it(self):
        for published, paid, right in ((1010, 505, 500), (1009, 504, 504)):
            told = [begin(limit=10000), quote(1, published * COIN), units_out(1, 500), close(), fix(1, 1, 1000 * COIN)]
            self.assertEqual(look_behind(told), [
                [0, -paid] + of_holders(500), [0, -right] + of_holders(500), [0] + of_holders(right - paid),
            ])


class Owed(unittest.TestCase):
    def test_over_all_deals_of_each_holder(self):
        told = [begin(cash=1000, units=of_holders(400, 300, 300)), units_out(1, 100), units_out(2, 50), money_in(3, 60),
                units_out(1, 10), close(), fix(1, 1, 1000 * COIN)]
        self.assertEqual(last(told + [owed()]), [0] + of_holders(110, 50))

    def test_over_all_days(self):
        told = [begin(cash=1000, units=of_holders(500, 500)), units_out(1, 100), close(), units_out(1, 100), close(),
                fix(1, 1, 1000 * COIN), fix(2, 1, 1000 * COIN)]
        # Right: 200 coins on day 1; on day 2, at 1800 over 900, 200 again.
        self.assertEqual(ask(told + [owed(), holder(1)])[-2:], [[0] + of_holders(200), [0, 300, 300, 0, 200]])

    def test_what_holders_owe_is_below_0(self):
        # At 1600 over 1000 the 101 units bring 161 coins, not 202.
        told = TWO_DAYS + [fix(1, 1, 300 * COIN)]
        self.assertEqual(last(told + [owed()]), [0] + of_holders(-41))
        self.assertEqual(last(told + [putright(), holder(1)]), [0, 899, 899, -41, 0])

    def test_nothing_behind_putright(self):
        self.assertEqual(last(FIXED + [putright(), owed()]), [0] * 11)

    def test_is_what_putright_tells_in_all(self):
        told = [begin(cash=1000, units=[100] * 10)] + [units_out(number, 10 * number) for number in range(1, 11)]
        told += [close(), fix(1, 1, 2000 * COIN)]
        self.assertEqual(last(told + [owed()]), [0] + [20 * number for number in range(1, 11)])
        self.assertEqual(last(told + [putright()]), [1, 1100, 0])


class Holder(unittest.TestCase):
    def test_each_holder(self):
        told = [begin(cash=1000, units=[100] * 10)] + [units_out(number, 10 * number) for number in range(1, 11)]
        told += [close()]
        left = [100 - 10 * number for number in range(1, 11)]
        self.assertEqual(holders_behind(told), [[0, units, units, 0, 0] for units in left])
        told += [fix(1, 1, 2000 * COIN)]
        self.assertEqual(holders_behind(told), [[0, 100 - 10 * n, 100 - 10 * n, 0, 20 * n] for n in range(1, 11)])
        told += [putright()]
        self.assertEqual(holders_behind(told), [[0, 100 - 10 * n, 100 - 10 * n, 20 * n, 0] for n in range(1, 11)])

    def test_units_that_stand_and_right_units(self):
        self.assertEqual(holders_behind(FIXED)[:3], [[0, 899, 899, 0, 50], [0, 150, 120, 0, 0], [0, 0, 0, 0, 0]])

    def test_units_below_0(self):
        self.assertEqual(last(BELOW_0 + [holder(2)]), [0, 10, -70, 0, 320])
        self.assertEqual(last(BELOW_0 + [putright(), holder(2)]), [0, -70, -70, 320, 0])

    def test_balances_are_new_behind_begin(self):
        self.assertEqual(last(FIXED + [putright(), begin(), holder(1)]), [0, 1000, 1000, 0, 0])

    def test_refusals(self):
        for number in (0, 11, -1, LEAST, MOST):
            self.assertEqual(refusal(self, FIXED + [putright()], holder(number)), -1)
            self.assertEqual(refusal(self, [begin(cash=1)], holder(number), 0), -1)


if __name__ == "__main__":
    unittest.main()
