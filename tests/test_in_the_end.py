"""A fund from its first correction to its last putright, and that it ends the same in whatever order."""

import itertools
import unittest

from tests.lines import (
    COIN, ask, begin, book, close, counts, day, fix, holder, last, looks, money_in, of_holders, outcome, owed, putright,
    quote, right, rightbook, units_out, wrongs,
)

# Day 1: at 2000 over 1000, 300 coins bring 150 units, 101 units bring 202 coins. Day 2: no deals.
TWO_DAYS = [
    begin(cash=1000, quantities=[2, 0, 0, 0, 0, 0]), quote(1, 500 * COIN), money_in(2, 300), units_out(1, 101),
    close(), close(),
]
# At 2500 over 1000: 120 units, 252 coins. At 1600 over 1000: 187 units, 161 coins.
HIGHER = fix(1, 1, 750 * COIN)
LOWER = fix(1, 1, 300 * COIN)
AS_PUBLISHED = fix(1, 1, 500 * COIN)
LOOK = [outcome(1, 1), outcome(1, 2), holder(1), holder(2), owed(), book(), rightbook(), wrongs()]
NO_ONE = [0] * 11


class Steps(unittest.TestCase):
    """Each step with all ahead of it: what is published stays, putright alone changes what stands."""

    def check(self, calls, expected):
        self.assertEqual(ask(TWO_DAYS + calls + LOOK)[-len(LOOK):], expected)

    def test_before_a_correction(self):
        self.check([], [
            [2, 300, 150, 300, 150, 300, 150], [1, -202, -101, -202, -101, -202, -101],
            [0, 899, 899, 0, 0], [0, 150, 150, 0, 0], NO_ONE,
            [0, 1098] + of_holders(899, 150), [0, 1098] + of_holders(899, 150), [0],
        ])

    def test_behind_a_correction(self):
        self.check([HIGHER], [
            [2, 300, 150, 300, 150, 300, 120], [1, -202, -101, -202, -101, -252, -101],
            [0, 899, 899, 0, 50], [0, 150, 120, 0, 0], [0] + of_holders(50),
            [0, 1098] + of_holders(899, 150), [0, 1048] + of_holders(899, 120), [2, 1, 2],
        ])

    def test_behind_putright(self):
        self.check([HIGHER, putright()], [
            [2, 300, 150, 300, 120, 300, 120], [1, -202, -101, -252, -101, -252, -101],
            [0, 899, 899, 50, 0], [0, 120, 120, 0, 0], NO_ONE,
            [0, 1048] + of_holders(899, 120), [0, 1048] + of_holders(899, 120), [2, 1, 2],
        ])

    def test_behind_a_second_correction(self):
        self.check([HIGHER, putright(), LOWER], [
            [2, 300, 150, 300, 120, 300, 187], [1, -202, -101, -252, -101, -161, -101],
            [0, 899, 899, 50, -91], [0, 120, 187, 0, 0], [0] + of_holders(-91),
            [0, 1048] + of_holders(899, 120), [0, 1139] + of_holders(899, 187), [2, 1, 2],
        ])

    def test_behind_a_second_putright(self):
        self.check([HIGHER, putright(), LOWER, putright()], [
            [2, 300, 150, 300, 187, 300, 187], [1, -202, -101, -161, -101, -161, -101],
            [0, 899, 899, -41, 0], [0, 187, 187, 0, 0], NO_ONE,
            [0, 1139] + of_holders(899, 187), [0, 1139] + of_holders(899, 187), [2, 1, 2],
        ])

    def test_behind_a_correction_that_takes_it_back(self):
        self.check([HIGHER, putright(), LOWER, putright(), AS_PUBLISHED], [
            [2, 300, 150, 300, 187, 300, 150], [1, -202, -101, -161, -101, -202, -101],
            [0, 899, 899, -41, 41], [0, 187, 150, 0, 0], [0] + of_holders(41),
            [0, 1139] + of_holders(899, 187), [0, 1098] + of_holders(899, 150), [0],
        ])

    def test_behind_a_third_putright(self):
        before = ask(TWO_DAYS + LOOK)[-len(LOOK):]
        self.check([HIGHER, putright(), LOWER, putright(), AS_PUBLISHED, putright()], before)

    def test_putright_with_nothing_new(self):
        for calls in ([], [HIGHER], [HIGHER, putright(), LOWER]):
            once = TWO_DAYS + calls + [putright()]
            self.assertEqual(ask(once + [putright()] + looks(2))[-len(looks(2)):], ask(once + looks(2))[-len(looks(2)):])

    def test_days_go_on_by_what_stands(self):
        # Day 3 is closed by the book that stands, and is wrong as soon as that book is.
        told = TWO_DAYS + [HIGHER, close()]
        self.assertEqual(ask(told + [wrongs(), day(3), right(3)])[-3:],
                         [[3, 1, 2, 3], [2098, 1049, 0, 0, 0], [1, 2048, 1019, 0]])
        told = TWO_DAYS + [HIGHER, putright(), close()]
        self.assertEqual(ask(told + [wrongs(), day(3), right(3)])[-3:],
                         [[2, 1, 2], [2048, 1019, 0, 0, 0], [0, 2048, 1019, 0]])

    def test_looking_changes_nothing(self):
        for calls in ([], [HIGHER], [HIGHER, putright()], [HIGHER, putright(), LOWER, money_in(1, 5)]):
            told = TWO_DAYS + calls
            further = [close(), putright()] + looks(3)
            self.assertEqual(ask(told + looks(3) + further)[-len(further):], ask(told + further)[-len(further):])


THREE_DAYS = [
    begin(cash=5000, rate=900000, limit=3000, quantities=[3, 2, 0, 0, 0, 7], units=of_holders(4000, 3000, 500)),
    quote(1, 600 * COIN), quote(2, 450 * COIN), quote(6, 90 * COIN),
    money_in(4, 777), units_out(1, 350), units_out(3, 13), money_in(4, 5), units_out(1, 20), close(),
    quote(2, 480 * COIN), units_out(2, 999), money_in(3, 1234), units_out(4, 20), close(),
    quote(1, 610 * COIN), units_out(1, 1), money_in(2, 55), units_out(3, 400), close(),
]
CORRECTIONS = [fix(1, 1, 750 * COIN), fix(2, 6, 20 * COIN), fix(3, 2, 481 * COIN), fix(1, 2, 300 * COIN)]
TAKEN_BACK = [fix(1, 1, 600 * COIN), fix(2, 6, 90 * COIN), fix(3, 2, 480 * COIN), fix(1, 2, 450 * COIN)]
IN_THE_END = looks(3) + [units_out(1, 3629), units_out(1, 3630), close(), close()] + looks(5)


def ways_to_put_right(corrections):
    """The corrections in each order, and in each a putright behind some of them; one at the end of all."""
    for found in itertools.permutations(corrections):
        for between in itertools.product((False, True), repeat=len(found) - 1):
            calls = []
            for correction, then in zip(found, between + (True,)):
                calls.append(correction)
                if then:
                    calls.append(putright())
            yield calls


def end_of(calls):
    return ask(calls + IN_THE_END)[-len(IN_THE_END):]


class InTheEnd(unittest.TestCase):
    def test_the_days_tell_something(self):
        told = THREE_DAYS + CORRECTIONS
        before = ask(told + [owed(), wrongs(), book(), rightbook()])[-4:]
        self.assertNotEqual(before[0], NO_ONE)
        # Day 3 is corrected too, but off by less than the limit.
        self.assertEqual(before[1], [2, 1, 2])
        self.assertNotEqual(before[2], before[3])
        done = last(told + [putright()])
        self.assertNotEqual(done[1], 0)
        self.assertNotEqual(done[2], 0)

    def test_in_whatever_order(self):
        together = end_of(THREE_DAYS + CORRECTIONS + [putright()])
        for calls in ways_to_put_right(CORRECTIONS):
            self.assertEqual(end_of(THREE_DAYS + calls), together)

    def test_what_putright_tells_adds_up(self):
        together = last(THREE_DAYS + CORRECTIONS + [putright()])
        for calls in ways_to_put_right(CORRECTIONS):
            told = THREE_DAYS + calls
            done = [answer for call, answer in zip(told, ask(told)) if call == putright()]
            self.assertEqual(done[-1][0], together[0])
            self.assertEqual([sum(answer[1] for answer in done), sum(answer[2] for answer in done)], together[1:])

    def test_by_way_of_a_correction_that_was_wrong_itself(self):
        together = end_of(THREE_DAYS + CORRECTIONS + [putright()])
        others = [fix(number, thing, 3 * price) for call, number, thing, price in CORRECTIONS]
        for wrongly in (others, others[:1], others[1:3]):
            for between in ([], [putright()]):
                self.assertEqual(end_of(THREE_DAYS + wrongly + between + CORRECTIONS + [putright()]), together)

    def test_taken_back_leaves_nothing_but_the_corrections(self):
        look = [book(), rightbook(), owed(), wrongs()] + [holder(number) for number in range(1, 11)]
        look += [outcome(number, place) for number in (1, 2, 3) for place in (1, 2, 3)]
        before = ask(THREE_DAYS + look)[-len(look):]
        for calls in ways_to_put_right(CORRECTIONS):
            told = THREE_DAYS + calls + TAKEN_BACK + [putright(), counts()]
            self.assertEqual(ask(told + look)[-len(look) - 1:], [[3, 0, 4]] + before)

    def test_book_is_rightbook_and_no_one_is_owed(self):
        for calls in ways_to_put_right(CORRECTIONS):
            found = ask(THREE_DAYS + calls + [book(), rightbook(), owed()])[-3:]
            self.assertEqual(found[0], found[1])
            self.assertEqual(found[2], NO_ONE)


if __name__ == "__main__":
    unittest.main()
