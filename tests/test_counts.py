"""wrongs, counts."""

import unittest

from tests.lines import (
    COIN, ask, begin, close, counts, fix, last, money_in, of_holders, putright, quote, units_out, wrongs,
)

FOUR_DAYS = [begin(), quote(1, 1000 * COIN)] + [close()] * 4


class Wrongs(unittest.TestCase):
    def test_none(self):
        self.assertEqual(last([begin(), wrongs()]), [0])
        self.assertEqual(last(FOUR_DAYS + [wrongs()]), [0])

    def test_days_in_their_order(self):
        told = FOUR_DAYS + [fix(4, 1, 5 * COIN), fix(2, 1, 5 * COIN)]
        self.assertEqual(last(told + [wrongs()]), [2, 2, 4])

    def test_the_first_and_the_last_day(self):
        told = FOUR_DAYS + [fix(1, 1, 5 * COIN), fix(4, 1, 1001 * COIN)]
        self.assertEqual(last(told + [wrongs()]), [2, 1, 4])

    def test_later_days_may_be_wrong_by_an_earlier_one(self):
        told = [begin(), quote(1, 1000 * COIN), close(), units_out(1, 100), close(), close(), fix(2, 1, 2000 * COIN)]
        self.assertEqual(last(told + [wrongs()]), [2, 2, 3])

    def test_the_same_behind_putright(self):
        told = FOUR_DAYS + [fix(2, 1, 5 * COIN), fix(3, 1, 5 * COIN)]
        self.assertEqual(ask(told + [wrongs(), putright(), wrongs(), putright(), wrongs()])[-5:],
                         [[2, 2, 3], [2, 0, 0], [2, 2, 3], [2, 0, 0], [2, 2, 3]])

    def test_not_wrong_when_corrected_to_what_was_published(self):
        told = FOUR_DAYS + [fix(2, 1, 5 * COIN), putright(), fix(2, 1, 1000 * COIN)]
        self.assertEqual(last(told + [wrongs()]), [0])

    def test_just_at_the_limit_and_beside_it(self):
        for limit, wrong in ((10000, [2, 1, 3]), (10001, [1, 3]), (9999, [2, 1, 3])):
            told = [begin(limit=limit)]
            for published in (1010, 1009, 1011):
                told += [quote(1, published * COIN), close()]
            told += [fix(number, 1, 1000 * COIN) for number in (1, 2, 3)]
            self.assertEqual(last(told + [wrongs()]), wrong)

    def test_right_value_below_1(self):
        self.assertEqual(last(FOUR_DAYS + [fix(1, 1, 999999), fix(2, 1, COIN), fix(3, 1, 0), wrongs()]), [1, 2])

    def test_right_units_below_1(self):
        # Right: 90 coins make 10 units, not 90, so behind 80 units out there are -60.
        told = [begin(cash=10, units=of_holders(10)), money_in(2, 90), close(), units_out(2, 80), close(), close(),
                fix(1, 1, 80 * COIN), fix(3, 1, 1000 * COIN)]
        self.assertEqual(last(told + [wrongs()]), [2, 1, 2])

    def test_60_wrong_days(self):
        told = [begin(), quote(1, COIN)] + [close()] * 60 + [fix(number, 1, 2 * COIN) for number in range(1, 61)]
        self.assertEqual(last(told + [wrongs()]), [60] + list(range(1, 61)))
        self.assertEqual(last(told + [fix(30, 1, COIN), wrongs()]), [59] + list(range(1, 30)) + list(range(31, 61)))


class Counts(unittest.TestCase):
    def test_none(self):
        self.assertEqual(last([begin(), counts()]), [0, 0, 0])

    def test_each(self):
        told = [begin(cash=1000), close(), money_in(2, 5), close(), money_in(2, 5), units_out(1, 1), money_in(2, 5)]
        self.assertEqual(last(told + [counts()]), [2, 3, 0])
        self.assertEqual(last(told + [close(), counts()]), [3, 0, 0])
        self.assertEqual(last(told + [fix(1, 1, 5), counts()]), [2, 3, 1])

    def test_another_correction_for_the_same_day_and_thing(self):
        told = [begin(cash=1000), close(), close(), fix(1, 1, 5), fix(1, 2, 5), fix(1, 1, 6), fix(2, 1, 5)]
        self.assertEqual(last(told + [counts()]), [2, 0, 3])

    def test_putright_leaves_them(self):
        told = [begin(cash=1000), close(), fix(1, 1, 5), money_in(1, 1), putright()]
        self.assertEqual(last(told + [counts()]), [1, 1, 1])

    def test_most_of_all(self):
        told = [begin(cash=1000)] + [close()] * 60
        told += [fix(number, 6, 5) for number in range(1, 61)] + [money_in(1, 1)] * 10
        self.assertEqual(last(told + [counts()]), [60, 10, 60])
        self.assertEqual(last(told + [close(), fix(1, 1, 1), money_in(1, 1), counts()]), [60, 10, 60])

    def test_what_is_refused_does_not_count(self):
        told = [begin(), close(), money_in(0, 1), units_out(2, 1), fix(1, 1, 1), begin(cash=-1)]
        self.assertEqual(last(told + [counts()]), [0, 0, 0])


if __name__ == "__main__":
    unittest.main()
