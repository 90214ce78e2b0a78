"""How the tests write calls and read answers: each call is a list, each answer is a list."""

from pricesright.fund import answers

COIN = 1000000
LEAST = -2 ** 63
MOST = 2 ** 63 - 1
NO_THINGS = [0] * 6
ONE_THING = [1, 0, 0, 0, 0, 0]


def of_holders(*units):
    return list(units) + [0] * (10 - len(units))


def begin(cash=0, rate=0, limit=0, quantities=ONE_THING, units=of_holders(1000)):
    return [0, cash, rate, limit, len(quantities)] + list(quantities) + [len(units)] + list(units)


def quote(thing, price):
    return [1, thing, price]


def order(holder, kind, amount):
    return [2, holder, kind, amount]


def money_in(holder, amount):
    return order(holder, 0, amount)


def units_out(holder, amount):
    return order(holder, 1, amount)


def close():
    return [3]


def fix(number, thing, price):
    return [4, number, thing, price]


def putright():
    return [5]


def day(number):
    return [6, number]


def right(number):
    return [7, number]


def outcome(number, place):
    return [8, number, place]


def holder(number):
    return [9, number]


def book():
    return [10]


def rightbook():
    return [11]


def owed():
    return [12]


def wrongs():
    return [13]


def counts():
    return [14]


def joined(calls):
    together = []
    for call in calls:
        together += call
    return together


def split(flat):
    parts = []
    place = 0
    while place < len(flat):
        length = flat[place]
        parts.append(flat[place + 1:place + 1 + length])
        place += 1 + length
    return parts


def ask(calls):
    """The answers to these calls, on a new object."""
    line = joined(calls)
    if not (1 <= len(calls) <= 400 and len(line) <= 16000):
        raise AssertionError("a line that may not be")
    found = split(answers(line))
    if len(found) != len(calls):
        raise AssertionError("not one answer for each call")
    return found


def last(calls):
    return ask(calls)[-1]


def looks(days):
    """All that can be asked of a fund without changing it; of outcomes, those of the first days."""
    calls = [counts(), book(), rightbook(), owed(), wrongs()] + [holder(number) for number in range(1, 11)]
    calls += [day(n) for n in range(1, days + 1)] + [right(n) for n in range(1, days + 1)]
    return calls + [outcome(n, place) for n in range(1, min(days, 3) + 1) for place in range(1, 11)]


def probes(days):
    """Calls whose answers tell apart any two states that differ, as far as calls can tell."""
    calls = looks(days + 1)
    calls += [money_in(10, 1), units_out(1, 1), units_out(2, 1), fix(1, 6, 0), fix(1, 6, 0), putright()]
    calls += [close(), day(days + 1), right(days + 1)]
    calls += [quote(thing, 10 * COIN) for thing in range(1, 7)]
    return calls + [close(), putright()] + [day(n) for n in range(1, days + 3)]


def refusal(test, before, refused, days=3):
    """What the refused call answers; the test fails if anything is another behind it."""
    without = ask(before + probes(days))
    behind = ask(before + [refused] + probes(days))
    test.assertEqual(len(behind[len(before)]), 1)
    test.assertEqual(behind[:len(before)], without[:len(before)])
    test.assertEqual(behind[len(before) + 1:], without[len(before):])
    return behind[len(before)][0]
