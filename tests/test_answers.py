"""The list that is given back, and the list that is handed in."""

import inspect
import io
import sys
import unittest
from unittest import mock

from pricesright.fund import answers
from tests.lines import (
    COIN, ask, begin, book, close, counts, day, fix, holder, joined, looks, money_in, of_holders, outcome, owed,
    putright, quote, right, rightbook, units_out, wrongs,
)

CALLS = [
    begin(cash=1000, rate=20000, limit=10, quantities=[2, 0, 0, 0, 0, 0], units=of_holders(700, 300)),
    begin(quantities=[1, 2, 3], units=[4] * 12), quote(1, 500 * COIN), quote(7, 1), money_in(2, 300), units_out(1, 101),
    close(), day(1), right(1), fix(1, 1, 750 * COIN), right(1), outcome(1, 1), outcome(1, 3), holder(1), holder(0),
    book(), rightbook(), owed(), wrongs(), counts(), putright(), day(1), day(2), day(0), close(), outcome(1, 2), owed(),
    holder(1),
]
LINE = joined(CALLS)
# 60 days with deals, corrections behind each other and looks between: 400 calls.
LONGEST = (
    [begin(cash=100000, rate=5000, quantities=[5, 1, 0, 0, 0, 0], units=of_holders(5000, 5000)), quote(1, 900 * COIN)]
    + [money_in(3, 500), units_out(1, 70), close()] * 60
    + [fix(number, 1, (870 + number) * COIN) for number in range(1, 61)]
    + [outcome(number, 2) for number in range(1, 61)] + [putright()] + [holder(number) for number in range(1, 11)]
    + [book(), rightbook(), owed(), wrongs(), counts()] * 17 + [book(), counts()]
)


def refused_begin(length):
    """A begin of so many numbers in all, 17 to 806, whose rows are of the wrong length."""
    both = length - 6
    first = max(7, both - 400)
    return begin(quantities=[3] * first, units=[5] * (both - first))


def filled_up(calls, behind):
    """The calls, refused ones, and those behind: 16000 whole numbers in all."""
    missing = 16000 - len(joined(calls + behind))
    while missing > 2 * 806:
        calls = calls + [refused_begin(806)]
        missing -= 806
    return calls + [refused_begin(missing // 2), refused_begin(missing - missing // 2)] + behind


class WatchedList(list):
    """A list that may be read alone."""

    def refuse(self, *told):
        raise AssertionError("the list that was handed in is changed")

    append = extend = insert = pop = remove = clear = sort = reverse = refuse
    __setitem__ = __delitem__ = __iadd__ = __imul__ = refuse


class Answers(unittest.TestCase):
    def test_each_answer_behind_its_length(self):
        calls = joined([begin(cash=1000, quantities=[2, 0, 0, 0, 0, 0]), quote(1, 500 * COIN), money_in(2, 300),
                        units_out(1, 101), close(), day(1), fix(1, 1, 750 * COIN), right(1), putright(), day(2)])
        self.assertEqual(answers(calls), [
            1, 1000, 1, 0, 1, 1, 1, 2, 4, 1, 2000, 1000, 0, 5, 2000, 1000, 0, 0, 2, 1, 1, 4, 1, 2500, 1000, 0,
            3, 1, 50, 0, 1, -4,
        ])

    def test_answers_that_begin_with_0_or_a_count(self):
        calls = [0, 7, 0, 0, 6, 1, 0, 0, 0, 0, 0, 10, 1, 2, 3, 4, 5, 6, 7, 8, 9, 10, 2, 3, 0, 7, 3, 4, 1, 1, 1000000]
        self.assertEqual(answers(calls), [1, 55, 1, 1, 4, 1, 7, 55, 0, 1, 1])
        # 7 coins make 55 units at 7 over 55; right, at 8, 48 (48.125 rounded down).
        self.assertEqual(answers(calls + [8, 1, 1, 9, 3])[11:], [7, 3, 7, 55, 7, 55, 7, 48, 5, 0, 58, 51, 0, 0])
        self.assertEqual(answers(calls + [10, 11])[11:], [
            12, 0, 14, 1, 2, 58, 4, 5, 6, 7, 8, 9, 10, 12, 0, 14, 1, 2, 51, 4, 5, 6, 7, 8, 9, 10,
        ])
        self.assertEqual(answers(calls + [12, 13, 14])[11:], [11] + [0] * 11 + [2, 1, 1, 3, 1, 0, 1])

    def test_a_refusal_is_one_number(self):
        self.assertEqual(answers([6, 0, 7, 1, 4, 1, 1, 1, 2, 1, 1, 1000001, 1, 9, 9, 8, 1, 0, 8, 1, 1, 9, 0]),
                         [1, -1, 1, -4, 1, -4, 1, -7, 1, -1, 1, -1, 1, -4, 1, -1])

    def test_whole_numbers_alone(self):
        found = answers(LINE)
        self.assertIs(type(found), list)
        self.assertEqual({type(number) for number in found}, {int})

    def test_what_is_handed_in_stays(self):
        handed = list(LINE)
        answers(handed)
        self.assertEqual(handed, LINE)

    def test_a_second_time_with_the_same_list(self):
        for calls in (CALLS, LONGEST):
            handed = joined(calls)
            first = answers(handed)
            self.assertEqual(answers(handed), first)
            self.assertEqual(handed, joined(calls))

    def test_what_is_handed_in_is_not_changed_for_a_while(self):
        self.assertEqual(answers(WatchedList(LINE)), answers(LINE))

    def test_what_is_handed_in_is_the_same_at_every_step(self):
        handed = list(LINE)
        steps = []

        def watch(frame, event, told):
            steps.append(handed == LINE)
            return watch

        before = sys.gettrace()
        sys.settrace(watch)
        try:
            answers(handed)
        finally:
            sys.settrace(before)
        self.assertGreater(len(steps), len(CALLS))
        self.assertEqual(all(steps), True)

    def test_what_is_given_back_is_a_new_list(self):
        first = answers(LINE)
        kept = list(first)
        first.append(5)
        self.assertEqual(answers(LINE), kept)

    def test_nothing_is_kept(self):
        first = answers(LINE)
        answers(joined([begin(cash=5), money_in(1, 3), close(), fix(1, 1, 9), putright()]))
        self.assertEqual(answers(LINE), first)
        self.assertEqual(answers([3]), [4, 1, 1000, 1000000, 0])
        self.assertEqual(answers([3]), [4, 1, 1000, 1000000, 0])

    def test_prints_reads_and_imports_nothing(self):
        expected = answers(LINE)
        refuse = mock.Mock(side_effect=AssertionError)
        out = io.StringIO()
        with mock.patch.multiple("builtins", open=refuse, input=refuse, print=refuse, __import__=refuse), \
                mock.patch.multiple("sys", stdin=None, stdout=out, stderr=out):
            found = answers(LINE)
        self.assertEqual(found, expected)
        self.assertEqual(out.getvalue(), "")

    def test_long_lines_are_gone_through_by_loops(self):
        before = sys.getrecursionlimit()
        handed = joined(LONGEST)
        expected = answers(handed)
        sys.setrecursionlimit(len(inspect.stack(0)) + 40)
        try:
            found = answers(handed)
        finally:
            sys.setrecursionlimit(before)
        self.assertEqual(found, expected)


class Longest(unittest.TestCase):
    def test_400_calls(self):
        self.assertEqual(answers([5] * 400), [3, 0, 0, 0] * 400)
        self.assertEqual(answers([13] * 400), [1, 0] * 400)

    def test_400_calls_of_many_kinds(self):
        self.assertEqual(len(LONGEST), 400)
        found = ask(LONGEST)
        done = [answer for call, answer in zip(LONGEST, found) if call == putright()][0]
        balances = [answer[3] for call, answer in zip(LONGEST, found) if call[0] == 9]
        stands, rightly, owing, wrong, how_many = found[-7:-2]
        self.assertEqual(stands, rightly)
        self.assertEqual(owing, [0] * 11)
        self.assertEqual(wrong, [60] + list(range(1, 61)))
        self.assertEqual(done[0], 60)
        self.assertEqual(how_many, [60, 0, 60])
        self.assertEqual(found[-2:], [stands, how_many])
        self.assertNotEqual(done[1], 0)
        self.assertEqual(balances, of_holders(done[1]))

    def test_16000_whole_numbers(self):
        calls = filled_up(CALLS, looks(2))
        self.assertEqual(len(joined(calls)), 16000)
        found = ask(calls)
        expected = ask(CALLS + looks(2))
        between = len(calls) - len(CALLS) - len(looks(2))
        self.assertEqual(found, expected[:len(CALLS)] + [[-2]] * between + expected[len(CALLS):])

    def test_16000_whole_numbers_in_400_calls(self):
        calls = [begin(cash=number, units=of_holders(number + 1)) for number in range(389)]
        calls += [refused_begin(744)] * 9 + [refused_begin(745), book()]
        self.assertEqual((len(calls), len(joined(calls))), (400, 16000))
        found = ask(calls)
        self.assertEqual(found[:389], [[number + 1] for number in range(389)])
        self.assertEqual(found[389:399], [[-2]] * 10)
        self.assertEqual(found[399], [0, 388] + of_holders(389))

    def test_the_longest_rows(self):
        row = [400] + [0] * 400
        calls = ([0, 0, 0, 0] + row + row) * 19
        self.assertEqual(answers(calls), [1, -2] * 19)

    def test_numbers_without_bound(self):
        told = [begin(cash=1, quantities=[0] * 6, units=[10 ** 15] * 10)] + [money_in(1, 10 ** 12)] * 10 + [close()] * 2
        found = answers(joined(told))
        self.assertEqual(found[-4:], [2, 1 + 10 ** 13, 10 ** 16 + 10 ** 29, 0])


if __name__ == "__main__":
    unittest.main()
