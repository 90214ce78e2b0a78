"""The list that is given back, and the list that is handed in."""

import unittest

from pricesright.fund import answers
from tests.lines import COIN, begin, close, day, fix, joined, money_in, of_holders, putright, quote, right, units_out

LINE = joined([
    begin(cash=1000, rate=20000, limit=10, quantities=[2, 0, 0, 0, 0, 0], units=of_holders(700, 300)),
    begin(quantities=[1, 2, 3], units=[4] * 12), quote(1, 500 * COIN), quote(7, 1), money_in(2, 300), units_out(1, 101),
    close(), day(1), right(1), fix(1, 1, 750 * COIN), right(1), putright(), day(1), day(2), day(0), close(),
])


class WatchedList(list):
    """A list that may be read alone."""

    def refuse(self, *told):
        raise AssertionError("the list that was handed in is changed")

    append = extend = insert = pop = remove = clear = sort = reverse = refuse
    __setitem__ = __delitem__ = __iadd__ = __imul__ = refuse


class Answers(unittest.TestCase):
    def test_each_answer_behind_its_length(self):
        calls = joined([begin(cash=1000, quantities=[2, 0, 0, 0, 0, 0]), quote(1, 500 * COIN), money_in(2, 300),
                        units_out(1, 101), close(), day(1), fix(1, 1, 750 * COIN), right(1), putright(), day(2)])
        self.assertEqual(answers(calls), [
            1, 1000, 1, 0, 1, 1, 1, 2, 4, 1, 2000, 1000, 0, 5, 2000, 1000, 0, 0, 2, 1, 1, 4, 1, 2500, 1000, 0,
            3, 1, 50, 0, 1, -4,
        ])

    def test_a_refusal_is_one_number(self):
        self.assertEqual(answers([6, 0, 7, 1, 4, 1, 1, 1, 2, 1, 1, 1000001, 1, 9, 9]),
                         [1, -1, 1, -4, 1, -4, 1, -7, 1, -1])

    def test_whole_numbers_alone(self):
        found = answers(LINE)
        self.assertIs(type(found), list)
        self.assertEqual({type(number) for number in found}, {int})

    def test_what_is_handed_in_stays(self):
        handed = list(LINE)
        answers(handed)
        self.assertEqual(handed, LINE)

    def test_what_is_handed_in_is_not_changed_for_a_while(self):
        self.assertEqual(answers(WatchedList(LINE)), answers(LINE))

    def test_what_is_given_back_is_a_new_list(self):
        first = answers(LINE)
        kept = list(first)
        first.append(5)
        self.assertEqual(answers(LINE), kept)

    def test_nothing_is_kept(self):
        first = answers(LINE)
        answers(joined([begin(cash=5), money_in(1, 3), close(), fix(1, 1, 9), putright()]))
        self.assertEqual(answers(LINE), first)
        self.assertEqual(answers([3]), [4, 1, 1000, 1000000, 0])
        self.assertEqual(answers([3]), [4, 1, 1000, 1000000, 0])

    def test_400_calls(self):
        self.assertEqual(answers([5] * 400), [3, 0, 0, 0] * 400)

    def test_the_longest_rows(self):
        row = [400] + [0] * 400
        calls = ([0, 0, 0, 0] + row + row) * 19
        self.assertEqual(answers(calls), [1, -2] * 19)

    def test_numbers_without_bound(self):
        told = [begin(cash=1, quantities=[0] * 6, units=[10 ** 15] * 10)] + [money_in(1, 10 ** 12)] * 10 + [close()] * 2
        found = answers(joined(told))
        self.assertEqual(found[-4:], [2, 1 + 10 ** 13, 10 ** 16 + 10 ** 29, 0])


if __name__ == "__main__":
    unittest.main()
