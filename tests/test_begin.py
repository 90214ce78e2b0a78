"""begin, and the object as it is at a line's beginning."""

import unittest

from pricesright.state import new_fund
from tests.lines import (
    COIN, LEAST, MOST, NO_THINGS, ONE_THING, ask, begin, book, close, counts, day, fix, holder, last, looks, money_in,
    of_holders, outcome, owed, putright, quote, refusal, right, rightbook, units_out, wrongs,
)

TRILLION = 10 ** 12
MIDST = [
    begin(cash=700, rate=5000, limit=20, quantities=[3, 1, 0, 0, 0, 2], units=of_holders(400, 600)),
    quote(1, 9 * COIN), quote(6, 5 * COIN), money_in(2, 50), close(), fix(1, 6, 8 * COIN), units_out(1, 30),
]


OTHER = begin(cash=11, rate=7, limit=3, quantities=[1, 1, 1, 1, 1, 1], units=of_holders(5, 6))
# One of each kind, and what a new object answers; then what it answers behind OTHER.
EACH_KIND = [
    (begin(units=of_holders(3)), [3], [3]),
    (quote(1, 5), [0], [0]),
    (units_out(1, 6), [1], [-7]),
    (close(), [1, 1000, 1000000, 0], [1, 11, 11, 0]),
    (fix(1, 1, 5), [-4], [-4]),
    (putright(), [0, 0, 0], [0, 0, 0]),
    (day(1), [-4], [-4]),
    (right(1), [-4], [-4]),
    (outcome(1, 1), [-4], [-4]),
    (holder(1), [0, 1000000, 1000000, 0, 0], [0, 5, 5, 0, 0]),
    (book(), [0, 1000] + of_holders(1000000), [0, 11] + of_holders(5, 6)),
    (rightbook(), [0, 1000] + of_holders(1000000), [0, 11] + of_holders(5, 6)),
    (owed(), [0] * 11, [0] * 11),
    (wrongs(), [0], [0]),
    (counts(), [0, 0, 0], [0, 0, 0]),
]


class NewObject(unittest.TestCase):
    def test_a_call_of_each_kind(self):
        self.assertEqual([call[0] for call, at_first, behind in EACH_KIND], list(range(15)))
        for call, at_first, behind in EACH_KIND:
            self.assertEqual(ask([call]), [at_first])

    def test_each_holder(self):
        found = ask([holder(number) for number in range(1, 11)])
        self.assertEqual(found, [[0, 1000000, 1000000, 0, 0]] + [[0] * 5] * 9)

    def test_what_a_line_begins_with(self):
        self.assertEqual(last([close()]), [1, 1000, 1000000, 0])

    def test_holders_at_first(self):
        self.assertEqual(last([units_out(1, 1000000)]), [1])
        self.assertEqual(last([units_out(1, 1000001)]), [-7])
        for holder in range(2, 11):
            self.assertEqual(last([units_out(holder, 1)]), [-7])

    def test_quantities_and_quotes_at_first(self):
        calls = [quote(thing, TRILLION) for thing in range(1, 7)]
        self.assertEqual(ask(calls), [[0]] * 6)
        self.assertEqual(last(calls + [close()]), [1, 1000, 1000000, 0])

    def test_no_days_deals_or_corrections_at_first(self):
        self.assertEqual(ask([day(1), right(1), fix(1, 1, 1), putright()]), [[-4], [-4], [-4], [0, 0, 0]])
        self.assertEqual(last([money_in(1, 1)]), [1])
        self.assertEqual(last([close(), fix(1, 1, 1)]), [1])

    def test_rate_is_0_at_first(self):
        told = [money_in(1, TRILLION), close(), close()]
        self.assertEqual(last(told), [2, TRILLION + 1000, 1000000 + 1000 * TRILLION, 0])

    def test_terms_at_first(self):
        # The limit is what no call can tell: without quantities no correction makes a difference.
        terms = new_fund().terms
        self.assertEqual((terms.limit, terms.first_units), (0, of_holders(1000000)))

    def test_like_behind_begin(self):
        told = begin(cash=1000, quantities=NO_THINGS, units=of_holders(1000000))
        calls = [money_in(3, 77), units_out(1, 5), close(), fix(1, 2, 5), right(1), putright(), day(1), close()]
        calls = looks(1) + calls + looks(3)
        self.assertEqual(ask(calls), ask([told] + calls)[1:])


class Begin(unittest.TestCase):
    def test_answers_the_units_in_all(self):
        self.assertEqual(last([begin(units=list(range(1, 11)))]), [55])

    def test_terms_are_kept(self):
        told = begin(cash=100, rate=1000000, quantities=[1, 2, 3, 4, 5, 6], units=of_holders(0, 40, 2))
        prices = [quote(thing, 10 ** thing * COIN) for thing in range(1, 7)]
        worth = 10 + 200 + 3000 + 40000 + 500000 + 6000000
        gross = worth + 100
        self.assertEqual(last([told] + prices + [close()]), [1, gross - gross // 365, 42, gross // 365])

    def test_most_of_all(self):
        told = begin(TRILLION, 1000000, 1000000, [1000000] * 6, [10 ** 15] * 10)
        self.assertEqual(last([told]), [10 ** 16])
        prices = [quote(thing, TRILLION) for thing in range(1, 7)]
        gross = 6 * TRILLION + TRILLION
        fee = gross // 365
        self.assertEqual(last([told] + prices + [close()]), [1, gross - fee, 10 ** 16, fee])

    def test_least_of_all(self):
        told = begin(0, 0, 0, NO_THINGS, [0] * 9 + [1])
        self.assertEqual(ask([told, close()]), [[1], [-9]])

    def test_a_call_of_each_kind_behind_one_in_the_midst(self):
        for midst in (MIDST, MIDST + [putright()], MIDST + [close(), close(), putright(), fix(3, 1, 5)]):
            for call, at_first, behind in EACH_KIND:
                self.assertEqual(last(midst + [OTHER, call]), behind)

    def test_in_the_midst_makes_all_new(self):
        behind = looks(2) + [
            close(), day(1), day(2), right(1), putright(), fix(1, 1, 9 * COIN), money_in(1, 2), units_out(1, 5),
            units_out(2, 6), quote(1, 3 * COIN), quote(6, 0), close(), right(1), putright(), day(1), day(2),
        ] + looks(3)
        self.assertEqual(ask(MIDST + [putright(), OTHER] + behind)[len(MIDST) + 1:], ask([OTHER] + behind))

    def test_numbers_out_of_range(self):
        for wrong in (-1, LEAST, MOST):
            self.assertEqual(refusal(self, MIDST, begin(cash=wrong)), -1)
            self.assertEqual(refusal(self, MIDST, begin(rate=wrong)), -1)
            self.assertEqual(refusal(self, MIDST, begin(limit=wrong)), -1)
        self.assertEqual(refusal(self, MIDST, begin(cash=TRILLION + 1)), -1)
        self.assertEqual(refusal(self, MIDST, begin(rate=1000001)), -1)
        self.assertEqual(refusal(self, MIDST, begin(limit=1000001)), -1)

    def test_rows_of_wrong_length(self):
        for length in (0, 1, 5, 7, 10, 400):
            self.assertEqual(refusal(self, MIDST, begin(quantities=[1] * length)), -2)
        for length in (0, 1, 6, 9, 11, 400):
            self.assertEqual(refusal(self, MIDST, begin(units=[1] * length)), -2)

    def test_rows_with_a_wrong_number(self):
        for wrong in (-1, 1000001, LEAST, MOST):
            for place in range(6):
                row = [1] * 6
                row[place] = wrong
                self.assertEqual(refusal(self, MIDST, begin(quantities=row)), -2)
        for wrong in (-1, 10 ** 15 + 1, LEAST, MOST):
            for place in range(10):
                row = [1] * 10
                row[place] = wrong
                self.assertEqual(refusal(self, MIDST, begin(units=row)), -2)

    def test_no_units_in_all(self):
        self.assertEqual(refusal(self, MIDST, begin(units=[0] * 10)), -2)

    def test_numbers_are_asked_ahead_of_rows(self):
        for wrong in ([1] * 5, [1] * 6 + [-1], [-1] * 6):
            self.assertEqual(refusal(self, MIDST, begin(cash=-1, quantities=wrong)), -1)
            self.assertEqual(refusal(self, MIDST, begin(limit=-1, quantities=wrong, units=[])), -1)
        self.assertEqual(refusal(self, MIDST, begin(rate=-1, quantities=ONE_THING, units=[0] * 10)), -1)

    def test_refused_rows_are_passed_over_whole(self):
        # Numbers within a refused row look like calls, and must not be taken for them.
        told = [begin(quantities=[3] * 400, units=[5] * 400), close(), day(1), day(2)]
        self.assertEqual(ask(told), [[-2], [1, 1000, 1000000, 0], [1000, 1000000, 0, 0, 0], [-4]])


if __name__ == "__main__":
    unittest.main()
