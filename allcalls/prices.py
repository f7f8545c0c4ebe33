"""How much was moved, by what was heard: the least and the greatest sums of runs, and prices."""

from allcalls.errors import BadNumber
from allcalls.hearings import Hearing, check_heard
from allcalls.kinds import is_number, is_row
from allcalls.worths import are_numbered


def check_price(number):
    """Raise BadNumber unless number is a number from 0 on."""
    if not is_number(number) or number < 0:
        raise BadNumber("number is a number from 0 on")


def next_sums(hearing, at, sums, sign):
    """The dict from all answers to the item at the standings of sums to the least sums, times sign, behind them."""
    found = {}
    for k in sums:
        if hearing.is_due(at, k):
            for other in hearing.answers_at(at, k):
                total = sums[k] + sign * hearing.cost(at, k, other)
                if other not in found or total < found[other]:
                    found[other] = total
    return found


def all_sums(hearing, sign):
    """For all indexes the dicts from what may stand there, by what was heard before, to the least sums times sign."""
    rows = [{0: 0}]
    for at in range(len(hearing.said)):
        rows.append(next_sums(hearing, at, rows[-1], sign))
    return rows


def fewest_moved(box, frame, moves, heard):
    """The least sum of costs of a run; None if there is no run."""
    check_heard(box, frame, moves, heard)
    last = all_sums(Hearing(box, frame, moves, heard), 1)[-1]
    return min(last.values()) if last else None


def most_moved(box, frame, moves, heard):
    """The greatest sum of costs of a run; None if there is no run."""
    check_heard(box, frame, moves, heard)
    last = all_sums(Hearing(box, frame, moves, heard), -1)[-1]
    return -min(last.values()) if last else None


def step_before(hearing, at, sums, k, total):
    """A standing of sums at which the item has the answer of number k, with the total together."""
    for other in sums:
        if sums[other] + hearing.cost(at, other, k) == total and hearing.leads(at, other, k):
            return other
    return None


def calm_run(box, frame, moves, heard):
    """A run with the least sum of costs; None if there is none."""
    check_heard(box, frame, moves, heard)
    hearing = Hearing(box, frame, moves, heard)
    rows = all_sums(hearing, 1)
    if not rows[-1]:
        return None
    least = min(rows[-1].values())
    found = [[k for k in rows[-1] if rows[-1][k] == least][0]]
    for at in range(len(heard) - 1, -1, -1):
        found.append(step_before(hearing, at, rows[at], found[-1], rows[at + 1][found[-1]]))
    return [hearing.ways[k] for k in reversed(found)]


def prices(box, frame, moves, heard, number):
    """Prices for the number; None if a run has a lesser sum."""
    check_heard(box, frame, moves, heard)
    check_price(number)
    hearing = Hearing(box, frame, moves, heard)
    rows = all_sums(hearing, 1)
    if rows[-1] and min(rows[-1].values()) < number:
        return None
    return [{hearing.ways[k]: row[k] for k in sorted(row)} for row in rows]


def is_paid(hearing, at, row, after):
    """Whether all answers to the item at standings of a row come in the next one, with no more than what they cost."""
    for k in row:
        if hearing.is_due(at, k):
            for other in hearing.answers_at(at, k):
                if other not in after or after[other] > row[k] + hearing.cost(at, k, other):
                    return False
    return True


def are_prices(box, frame, moves, heard, number, thing):
    """Whether any value is a list of prices for the number."""
    check_heard(box, frame, moves, heard)
    check_price(number)
    hearing = Hearing(box, frame, moves, heard)
    if not is_row(thing) or len(thing) != len(heard) + 1:
        return False
    for row in thing:
        if not are_numbered(box, frame, row):
            return False
    rows = [{hearing.place[standing]: row[standing] for standing in row} for row in thing]
    if rows[0].get(0) != 0:
        return False
    for at in range(len(heard)):
        if not is_paid(hearing, at, rows[at], rows[at + 1]):
            return False
    return min([number] + list(rows[-1].values())) == number
