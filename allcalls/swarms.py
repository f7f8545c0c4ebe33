"""The game of bursts: many askings at once, over all standings of a box and a frame, numbered as in games."""

from math import comb

from allcalls.counts import is_below, one_more, raised
from allcalls.errors import TooMany
from allcalls.seekers import Seekers
from allcalls.tallies import tally_above

MOST_BURSTS = 20000


def loads_under(load):
    """The list of all loads below the load."""
    found = [()]
    for number in load:
        found = [row + (k,) for row in found for k in range(number + 1)]
    return found


def many_choices(load, stay):
    """How many lots of switches leave the load stay of a standing with the load."""
    many = 1
    for high, low in zip(load, stay):
        many = many * comb(high, low)
    return many


class BurstCounts:
    """How many bursts there are at standings with a load; each load that stays is looked at once."""

    def __init__(self, frame, many):
        self.frame = frame
        self.many = many
        self.above = {}

    def tally(self, load):
        """How many bursts there are at a standing with the load; a number above 20000, if there are more."""
        total = -1
        for stay in loads_under(load):
            left = self.many - sum(load) + sum(stay)
            if left >= 0:
                if (stay, left) not in self.above:
                    self.above[(stay, left)] = tally_above(self.frame, stay, left, MOST_BURSTS)
                total += many_choices(load, stay) * self.above[(stay, left)]
                if total > MOST_BURSTS:
                    return total
        return total


def check_bursts(frame, many, loads):
    """Raise TooMany(20000) if there are more bursts at a standing with one of the loads."""
    counts = BurstCounts(frame, many)
    for load in loads:
        if counts.tally(load) > MOST_BURSTS:
            raise TooMany(MOST_BURSTS)


class Swarm:
    """What may be asked at once: from each carried load the other ones that up to many more wires make of it.

    goals: for each carried load the list of pairs of how many wires more there are and the carried load with them.
    lacks: for each the least number of wires more that make a load of the frame that is not carried, or None.
    """

    def __init__(self, table, frame, many):
        self.table = table
        self.frame = frame
        self.many = many
        self.lacks = {}
        for load in sorted(table.groups, key=lambda one: -sum(one)):
            self.lacks[load] = self.least_lack(load)
        self.goals = {load: self.goals_of(load) for load in table.groups}
        self.told = {}

    def loads_after(self, load):
        """The list of the loads of the frame with one wire more than the load."""
        return [one_more(self.table.sides, load, pair) for pair in self.table.wants[load]]

    def least_lack(self, load):
        """The least number of wires more that make a load that is not carried; None if there is none."""
        found = []
        for other in self.loads_after(load):
            if other not in self.table.groups:
                return 1
            if self.lacks[other] is not None:
                found.append(self.lacks[other] + 1)
        return min(found) if found else None

    def goals_of(self, load):
        """The list of the pairs of how many wires more there are, at most many, and the carried load with them."""
        found = []
        ring = [load]
        for more in range(1, self.many + 1):
            known = {}
            for one in ring:
                for other in self.loads_after(one):
                    if other in self.table.groups:
                        known[other] = True
            ring = sorted(known)
            if not ring:
                break
            found.extend([(more, other) for other in ring])
        return found

    def first_lack(self, load, budget):
        """The first load of at most so many wires, as tuples, that makes one of the frame that is not carried."""
        if (load, budget) not in self.told:
            self.told[(load, budget)] = self.find_lack(load, budget)
        return self.told[(load, budget)]

    def find_lack(self, load, budget):
        """What first_lack tells, looked for place by place."""
        rest = [(load, 0, budget)]
        while rest:
            sum_up, place, left = rest.pop()
            if sum_up not in self.table.groups:
                return tuple([high - low for low, high in zip(load, sum_up)])
            if place == len(load) or self.lacks[sum_up] is None or self.lacks[sum_up] > left:
                continue
            for number in range(left, -1, -1):
                more = raised(sum_up, place, number)
                if self.is_of_frame(more):
                    rest.append((more, place + 1, left - number))
        return None

    def is_of_frame(self, load):
        """Whether the load is of the frame."""
        if load in self.table.groups:
            return True
        for top in self.frame:
            if is_below(load, top):
                return True
        return False


class Siege:
    """The game of bursts with so many moves, round by round.

    ranks: for each standing its rank, None if it is not lost. nodes: for each lost one its rank and first burst.
    """

    def __init__(self, swarm, moves):
        self.swarm = swarm
        self.table = swarm.table
        many = len(self.table.ways)
        self.ranks = [None] * many
        self.nodes = {}
        self.seekers = Seekers(self.table.marks, moves)
        # levels: the least number of wires more that are not answered where a standing is all that stays.
        # reach: the least number of askings by which one comes from a standing to what is not answered.
        self.levels = [None] * many
        self.reach = [None] * many
        self.fails = [[] for _ in self.table.ways]
        self.owners = []
        lost = self.open_up()
        rank = 0
        while lost:
            for k in lost:
                self.nodes[k] = (rank, self.first_burst(k))
            for k in lost:
                self.ranks[k] = rank
            lost = self.next_lost(lost)
            rank += 1

    def open_up(self):
        """Set up who seeks what; the list of the standings with the rank 0."""
        hit = {}
        for k, load in enumerate(self.table.loads):
            lack = self.swarm.lacks[load]
            if lack is not None and lack <= self.swarm.many:
                self.fail(k, lack, hit)
            for more, other in self.swarm.goals[load]:
                self.owners.append((k, more, other))
                if not self.seekers.seek(self.table.marks[k], self.table.groups[other]):
                    self.fail_at(k, more, other, hit)
        return sorted(hit)

    def next_lost(self, lost):
        """The list of the standings that are lost next, when these are."""
        hit = {}
        for seeker in self.seekers.drop(lost):
            k, more, other = self.owners[seeker]
            self.fail_at(k, more, other, hit)
        for k in lost:
            for other in self.table.above[k]:
                self.come_near(other, 1, hit)
        return sorted(hit)

    def fail_at(self, k, more, other, hit):
        """Write down that the other load has no answer where the standing of number k is what stays."""
        extra = tuple([high - low for low, high in zip(self.table.loads[k], other)])
        self.fails[k].append((more, extra))
        self.fail(k, more, hit)

    def fail(self, k, more, hit):
        """Write down that so many wires more have no answer where the standing of number k is what stays."""
        if self.levels[k] is None or more < self.levels[k]:
            self.levels[k] = more
        self.come_near(k, more, hit)

    def come_near(self, k, askings, hit):
        """Write down that one comes from the standing of number k in so many askings to what has no answer.

        The standings that are lost by this are put into hit.
        """
        rest = [(k, askings)]
        while rest:
            one, number = rest.pop()
            if number > self.swarm.many or (self.reach[one] is not None and self.reach[one] <= number):
                continue
            self.reach[one] = number
            if self.ranks[one] is None:
                hit[one] = True
            rest.extend([(other, number + 1) for other in self.table.above[one]])

    def first_burst(self, k):
        """The first burst without an answer at the standing of number k."""
        way = self.table.ways[k]
        rest = [(k, (), 0)]
        while rest:
            stay, gone, start = rest.pop()
            left = self.swarm.many - len(gone)
            more = self.first_more(stay, left, len(gone) > 0)
            if more is not None:
                return (gone, more)
            for at in range(len(way) - 1, start - 1, -1):
                other = self.table.ends[stay][at - len(gone)]
                if self.is_near(other, left - 1):
                    rest.append((other, gone + (way[at],), at + 1))
        return None

    def is_near(self, k, left):
        """Whether so many askings lead from the standing of number k to what has no answer, or it is lost itself."""
        if left < 0:
            return False
        return self.ranks[k] is not None or (self.reach[k] is not None and self.reach[k] <= left)

    def first_more(self, stay, left, may_be_none):
        """The first load of at most so many wires that has no answer where the standing of number stay is left."""
        load = self.table.loads[stay]
        if may_be_none and self.ranks[stay] is not None:
            return (0,) * len(load)
        if self.levels[stay] is None or self.levels[stay] > left:
            return None
        found = [extra for more, extra in self.fails[stay] if more <= left]
        lack = self.swarm.first_lack(load, left)
        if lack is not None:
            found.append(lack)
        return min(found)

    def kept(self):
        """The ascending tuple of the standings that are not lost; None if () is."""
        if self.ranks[0] is not None:
            return None
        return tuple([way for way, rank in zip(self.table.ways, self.ranks) if rank is None])
