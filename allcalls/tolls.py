"""The game in which wires that are moved cost: an asker raises the costs on the long run, the box keeps them low."""

from allcalls.counts import no_wires, one_more
from allcalls.errors import BadFrame, NotWhole
from allcalls.frames import check_frame
from allcalls.games import Table
from allcalls.packs import bits_in
from allcalls.reach import Reach
from allcalls.ways import ways_among

MOST_TOLLED = 200
# Costs are told in so small parts that two worths, fractions of numbers of standings, are never as near.
PARTS = 1099511627776


def check_toll_game(box, frame):
    """Raise BadBox, BadFrame, TooMany as in way_for, NotWhole unless the box is whole for a frame with some wire."""
    check_frame(box, frame)
    if frame == (no_wires(box.sides),):
        raise BadFrame("some load of the frame has a wire")
    reach = Reach(box, False)
    for load in frame:
        if not reach.is_in_reach(load):
            raise NotWhole("the box carries each load of the frame")


class Tolls:
    """All standings, what is asked there, and what the answers cost; TooMany(200) if there are more standings.

    ways: the standings. place: from each to its number. due: for each number the askings. behind: for each number
    and each of its askings the pairs of the number of an answer and its cost.
    """

    def __init__(self, box, frame):
        ways_among(box.sides, box.switches, frame, MOST_TOLLED)
        table = Table(box, frame)
        self.ways = table.ways
        self.place = table.place
        self.due = []
        self.behind = []
        for k, way in enumerate(table.ways):
            wants = table.wants[table.loads[k]]
            self.due.append([("end", switch) for switch in way] + [("want", pair) for pair in wants])
            rows = [[(other, 0)] for other in table.ends[k]]
            for pair in wants:
                group = table.groups[one_more(box.sides, table.loads[k], pair)]
                rows.append([(other, bits_in(table.marks[k] & ~table.marks[other])) for other in group])
            self.behind.append(rows)

    def answers_at(self, standing, asking):
        """The list of the pairs of the number of an answer and its cost."""
        k = self.place[standing]
        return self.behind[k][self.due[k].index(asking)]


def least_sum(answers, scale, sums):
    """The least of the sum of an answer and scale times its cost together."""
    return min([scale * cost + sums[other] for other, cost in answers])


def raised(tolls, scale, sums):
    """For each standing the greatest, over its askings, of the least sums behind them."""
    return [max([least_sum(answers, scale, sums) for answers in rows]) for rows in tolls.behind]


class Worth:
    """The worth of the game, and how both sides play for it.

    up, down: the worth. chosen: for each standing and each of its askings the pair of an answer and its cost by which
    no round costs more than the worth. quests: for each standing the place of an asking by which none costs less.
    """

    def __init__(self, tolls):
        many = len(tolls.ways)
        sums = [0] * many
        after = raised(tolls, PARTS, sums)
        # In one step the sums rise nowhere by more than the greatest, nowhere by less than the least of these, and so
        # they do on the long run. Going halfway alone they settle to rising everywhere alike.
        while (highest(after, sums) - lowest(after, sums)) * many * many >= PARTS:
            sums = [(high + low) // 2 - after[0] for high, low in zip(after, sums)]
            after = raised(tolls, PARTS, sums)
        self.up, self.down = fraction_within(lowest(after, sums), highest(after, sums), many)
        self.chosen = []
        self.quests = []
        for rows, high in zip(tolls.behind, after):
            leasts = [least_sum(answers, PARTS, sums) for answers in rows]
            self.quests.append(leasts.index(high))
            self.chosen.append([best_of(answers, PARTS, sums) for answers in rows])

    def is_above(self, up, down):
        """Whether the worth is above the fraction."""
        return self.up * down > up * self.down


def highest(after, sums):
    """The greatest step from the sums to those after them."""
    return max([high - low for high, low in zip(after, sums)])


def lowest(after, sums):
    """The least step from the sums to those after them."""
    return min([high - low for high, low in zip(after, sums)])


def fraction_within(low, high, most):
    """The fraction in least terms from low to high parts whose lower number is at most so great."""
    for down in range(1, most + 1):
        up = high * down // PARTS
        if up * PARTS >= low * down:
            return (up, down)
    return None


def best_of(answers, scale, sums):
    """The first answer, with its cost, that has the least sum."""
    least = least_sum(answers, scale, sums)
    for other, cost in answers:
        if scale * cost + sums[other] == least:
            return (other, cost)
    return None


def longest(rows, take, give):
    """For each number the greatest sum of what the steps of a path from it on take and give; 0 at least.

    rows has, for each number, pairs of a next one and a cost: the step takes so much for each cost, and gives. No
    round takes more than it gives.
    """
    found = [0] * len(rows)
    is_new = True
    while is_new:
        is_new = False
        for k, row in enumerate(rows):
            reach = max([0] + [found[other] + take * cost - give for other, cost in row])
            if reach > found[k]:
                found[k] = reach
                is_new = True
    return found


def fine(tolls):
    """How many fine parts each part of a cost is cut into: more than there are steps on a path without a round."""
    return len(tolls.ways) + 1


def better_row(rows, row, take, needs):
    """For each asking of a standing the answer chosen, with its cost, or another one with which less is needed."""
    found = []
    for answers, (other, cost) in zip(rows, row):
        is_best = least_sum(answers, take, needs) == take * cost + needs[other]
        found.append((other, cost) if is_best else best_of(answers, take, needs))
    return found


def fine_needs(tolls, worth, up, down):
    """For each standing the least need in fine parts, if each asking gives up and each wire takes down.

    The worth is not above up / down. Each asking gives a fine part more, so no round is even, and what no other answer
    alone makes better is the least.
    """
    chosen = worth.chosen
    give = fine(tolls) * up + 1
    take = fine(tolls) * down
    while True:
        needs = longest(chosen, take, give)
        better = [better_row(rows, row, take, needs) for rows, row in zip(tolls.behind, chosen)]
        if better == chosen:
            return needs
        chosen = better


def least_needs(tolls, up, down):
    """For each standing the least need, if each asking gives up and each wire takes down; None if there is no end."""
    worth = Worth(tolls)
    if worth.is_above(up, down):
        return None
    parts = fine(tolls)
    return [(need + parts - 1) // parts for need in fine_needs(tolls, worth, up, down)]


def is_answered(tolls, up, down, numbers):
    """Whether at each standing of the dict all askings have answers there for which its number and up are enough."""
    known = {tolls.place[way]: numbers[way] for way in numbers}
    for k in known:
        for answers in tolls.behind[k]:
            room = known[k] + up
            if not [other for other, cost in answers if other in known and down * cost + known[other] <= room]:
                return False
    return True
