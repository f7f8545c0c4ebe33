"""The game in which switches break: all its positions, numbered ascending, and which of them are lost."""

from itertools import combinations
from math import comb

from allcalls.counts import one_more
from allcalls.errors import TooMany
from allcalls.finders import Finder
from allcalls.seekers import Seekers
from allcalls.ways import Wanted, all_standings, load_of

MOST_POSITIONS = 5000


def many_lots(many, number):
    """How many lots of at most so many there are among so many switches."""
    return sum([comb(many, k) for k in range(min(number, many) + 1)])


def all_lots(switches, number):
    """The ascending list of all lots of at most so many of the ascending switches."""
    wires = list(switches)
    found = []
    for k in range(min(number, len(wires)) + 1):
        found.extend(list(combinations(wires, k)))
    return sorted(found)


def checked_standings(box, frame, number):
    """The ascending list of all standings; TooMany(5000) if there are more positions than that."""
    many = len(box.switches)
    # The empty standing alone may have too many.
    if many_lots(many, number) > MOST_POSITIONS:
        raise TooMany(MOST_POSITIONS)
    ways = all_standings(box, frame)
    if sum([many_lots(many - len(way), number) for way in ways]) > MOST_POSITIONS:
        raise TooMany(MOST_POSITIONS)
    return ways


def all_positions(box, frame, number):
    """The ascending list of all positions; TooMany(5000) if there are more."""
    ways = checked_standings(box, frame, number)
    finder = Finder(box)
    marks = [finder.lot_of(way) for way in ways]
    found = []
    for gone in all_lots(box.switches, number):
        lot = finder.lot_of(gone)
        found.extend([(gone, way) for way, mark in zip(ways, marks) if not mark & lot])
    return found


class BreakTable:
    """All positions and what is to be answered there.

    lots, marks: for each position what is gone and the wires, as lots of the finder. groups: from pairs of a lot gone
    and a load to the ascending numbers of the positions that have both. due: for each position the ascending list
    of what is to be answered there.
    """

    def __init__(self, box, frame, number):
        self.box = box
        self.number = number
        self.positions = all_positions(box, frame, number)
        self.place = {position: k for k, position in enumerate(self.positions)}
        self.finder = Finder(box)
        self.lots = [self.finder.lot_of(gone) for gone, _ in self.positions]
        self.marks = [self.finder.lot_of(way) for _, way in self.positions]
        self.loads = [load_of(box.sides, way) for _, way in self.positions]
        self.groups = {}
        for k, load in enumerate(self.loads):
            self.groups.setdefault((self.lots[k], load), []).append(k)
        wanted = Wanted(box, frame)
        self.due = [asked_at(box, number, wanted, position) for position in self.positions]

    def choices_at(self, k, asked):
        """The pair of the wires that may be moved, as a lot, and the numbers of the positions that may answer."""
        word, what = asked
        if word == "want":
            load = one_more(self.box.sides, self.loads[k], what)
            return (self.marks[k], self.groups.get((self.lots[k], load), []))
        bit = self.finder.bits[what]
        left = self.marks[k] & ~bit
        if word == "break":
            return (left, self.groups.get((self.lots[k] | bit, self.loads[k]), []))
        gone, way = self.positions[k]
        return (left, [self.place[(gone, tuple([wire for wire in way if wire != what]))]])

    def is_ever_carried(self, frame):
        """Whether, whatever is gone, there is a standing with each load of the frame's tuple."""
        for lot in {one: True for one in self.lots}:
            for load in frame:
                if (lot, load) not in self.groups:
                    return False
        return True


def asked_at(box, number, wanted, position):
    """The ascending list of what is to be answered at the position."""
    gone, way = position
    found = []
    if len(gone) < number:
        found = [("break", switch) for switch in box.switches if switch not in gone]
    return found + wanted.askings_at(way)


class BreakFalls:
    """Which positions are lost with so many moves: nodes has their ranks and what is asked there."""

    def __init__(self, table, moves):
        self.nodes = {}
        seekers = Seekers(table.marks, moves)
        owners = []
        lost = []
        for k, asked in enumerate(table.due):
            for one in asked:
                own, choices = table.choices_at(k, one)
                owners.append((k, one))
                if not seekers.seek(own, choices) and k not in self.nodes:
                    self.nodes[k] = (0, one)
                    lost.append(k)
        rank = 0
        while lost:
            rank += 1
            fresh = []
            for seeker in sorted(seekers.drop(lost)):
                k, one = owners[seeker]
                if k not in self.nodes:
                    self.nodes[k] = (rank, one)
                    fresh.append(k)
            lost = fresh
