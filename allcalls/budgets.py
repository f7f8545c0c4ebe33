"""Budgets: what each asking brings and each moved wire takes, and with how much one can answer for ever."""

from heapq import heappop, heappush

from allcalls.errors import BadBudget, BadGain, BadPrice
from allcalls.kinds import is_number, is_tuple_of, is_within
from allcalls.tolls import Tolls, Worth, check_toll_game, fine, fine_needs, is_answered, least_needs, least_sum, longest
from allcalls.ways import is_standing_of
from allcalls.worths import are_numbered

MOST_GAIN = 99
MOST_PRICE = 99
MOST_BUDGET = 99


def check_budget_game(box, frame, gain, price):
    """Raise an error unless the box is whole for the frame and gain and price are as they are described."""
    check_toll_game(box, frame)
    if not is_within(gain, 0, MOST_GAIN):
        raise BadGain("gain is a number from 0 to 99")
    if not is_within(price, 1, MOST_PRICE):
        raise BadPrice("price is a number from 1 to 99")


def check_budget(budget):
    """Raise BadBudget unless budget is a number from 0 to 99."""
    if not is_within(budget, 0, MOST_BUDGET):
        raise BadBudget("budget is a number from 0 to 99")


def least_budget(box, frame, gain, price):
    """The least budget that is enough at the empty standing; None if none is."""
    check_budget_game(box, frame, gain, price)
    needs = least_needs(Tolls(box, frame), gain, price)
    return None if needs is None else needs[0]


def budgets(box, frame, gain, price):
    """The dict from all standings at which some budget is enough to the least one."""
    check_budget_game(box, frame, gain, price)
    tolls = Tolls(box, frame)
    needs = least_needs(tolls, gain, price)
    return {} if needs is None else {way: need for way, need in zip(tolls.ways, needs)}


def is_budgets(box, frame, gain, price, thing):
    """Whether any value is a dict from standings to numbers with which one can answer for ever."""
    check_budget_game(box, frame, gain, price)
    tolls = Tolls(box, frame)
    return are_numbered(box, frame, thing) and is_answered(tolls, gain, price, thing)


class Siege:
    """How an asker ruins who has too little: each asking brings a fall of what is left and the height together.

    heights: for each standing. quests: for each standing the place of what is asked. parts: what 1 of what is left
    counts for in a fall.
    """

    def __init__(self, tolls, gain, price):
        worth = Worth(tolls)
        self.parts = fine(tolls)
        take = self.parts * price
        if worth.is_above(gain, price):
            self.quests = worth.quests
            rows = [answers[place] for answers, place in zip(tolls.behind, self.quests)]
            self.heights = longest(rows, -take, -(self.parts * gain + 1))
            return
        needs = fine_needs(tolls, worth, gain, price)
        most = max(needs)
        self.heights = [most - need for need in needs]
        # What is asked where nothing is needed has no meaning: nobody comes there with less.
        self.quests = []
        for rows in tolls.behind:
            leasts = [least_sum(answers, take, needs) for answers in rows]
            self.quests.append(leasts.index(max(leasts)))

    def rank(self, k, number):
        """The rank at the standing of number k with so much left."""
        return self.parts * number + self.heights[k] + 1


def ruin(box, frame, gain, price, budget):
    """A ruin for the budget; None if the budget is enough."""
    check_budget_game(box, frame, gain, price)
    check_budget(budget)
    tolls = Tolls(box, frame)
    needs = least_needs(tolls, gain, price)
    if needs is not None and needs[0] <= budget:
        return None
    siege = Siege(tolls, gain, price)
    found = {}
    queue = [(-siege.rank(0, budget), 0, budget)]
    while queue:
        rank, k, number = heappop(queue)
        if (k, number) in found:
            continue
        found[(k, number)] = -rank
        for other, cost in tolls.behind[k][siege.quests[k]]:
            left = number + gain - price * cost
            if left >= 0 and (other, left) not in found:
                heappush(queue, (-siege.rank(other, left), other, left))
    return {(tolls.ways[k], number): found[(k, number)] for k, number in sorted(found)}


def ranks_by_standing(box, frame, tolls, thing):
    """For each standing the ascending list of pairs of what is left and a rank; None if any value has no such keys."""
    if not isinstance(thing, dict):
        return None
    found = [[] for _ in tolls.ways]
    for key, rank in thing.items():
        if not is_tuple_of(key, 2) or not is_standing_of(box, frame, key[0]):
            return None
        if not is_number(key[1]) or key[1] < 0 or not is_number(rank) or rank < 1:
            return None
        found[tolls.place[key[0]]].append((key[1], rank))
    return [sorted(row) for row in found]


def leasts_behind(row):
    """For each pair of a row the least rank of it and of those behind it."""
    found = []
    for _, rank in reversed(row):
        found.append(min(rank, found[-1]) if found else rank)
    return list(reversed(found))


def first_from(row, left):
    """The index of the first pair of the row with at least so much left."""
    low = 0
    high = len(row)
    while low < high:
        middle = (low + high) // 2
        if row[middle][0] < left:
            low = middle + 1
        else:
            high = middle
    return low


class RuinJudge:
    """The keys of what may be a ruin, by their standings: which least rank there is with so much left or more."""

    def __init__(self, rows, gain, price):
        self.rows = rows
        self.brings = gain
        self.takes = price
        self.leasts = [leasts_behind(row) for row in rows]

    def is_lesser(self, other, left, rank):
        """Whether there is a key of a lesser rank at the standing of this number with so much left or more."""
        at = first_from(self.rows[other], left)
        return at < len(self.rows[other]) and self.leasts[other][at] < rank

    def is_pressed(self, number, rank, answers):
        """Whether with so much left each of the answers comes to less than nothing or to a lesser rank."""
        for other, cost in answers:
            left = number + self.brings - self.takes * cost
            if left >= 0 and not self.is_lesser(other, left, rank):
                return False
        return True

    def is_ruined(self, k, asked):
        """Whether each key at the standing of number k has an asking, of those with these answers, that presses it."""
        for number, rank in self.rows[k]:
            if not [answers for answers in asked if self.is_pressed(number, rank, answers)]:
                return False
        return True


def is_ruin(box, frame, gain, price, budget, thing):
    """Whether any value is a ruin for the budget."""
    check_budget_game(box, frame, gain, price)
    check_budget(budget)
    tolls = Tolls(box, frame)
    rows = ranks_by_standing(box, frame, tolls, thing)
    if rows is None or ((), budget) not in thing:
        return False
    judge = RuinJudge(rows, gain, price)
    for k, asked in enumerate(tolls.behind):
        if not judge.is_ruined(k, asked):
            return False
    return True
