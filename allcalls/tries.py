"""Finding a way that rings: rows of tries, and shields that show that so few are not enough."""

from allcalls.boxes import is_lot
from allcalls.covers import Cover, Misses, Sums, beyond, first_of, members_of, size_of
from allcalls.errors import BadNumber, TooMany
from allcalls.finders import Finder
from allcalls.kinds import is_plain, is_row, is_tuple_of, is_within
from allcalls.loads import check_box_load
from allcalls.packs import bits_in
from allcalls.trials import check_most, mutes_of

MOST_WAYS = 5000
MOST_NUMBER = 99
MOST_WORTH = 999
# So many ways are looked at before tries no two of which have a switch in common are given up.
MOST_STEPS = 2000


class Quest:
    """A load of a box: all of its ways and all mutes, as lots, and which ways have none of which mutes."""

    def __init__(self, box, load, most):
        self.box = box
        self.load = load
        self.most = most
        self.finder = Finder(box)
        self.mutes = [self.finder.lot_of(mutes) for mutes in mutes_of(box, (load,), most)]
        self.ways = self.finder.all_ways(load, MOST_WAYS)
        if len(self.ways) > MOST_WAYS:
            raise TooMany(MOST_WAYS)
        self.switches = [self.finder.switches_in(way) for way in self.ways]
        self.place = {way: k for k, way in enumerate(self.switches)}
        self.steps = 0

    def hard_mutes(self):
        """The list of those of the mutes that are as many as can be, those that leave the fewest ways first."""
        greatest = max([bits_in(mutes) for mutes in self.mutes])
        # Whoever has a way without more mutes has one without less.
        found = [mutes for mutes in self.mutes if bits_in(mutes) == greatest]
        ways = Misses(self.ways)
        left = {mutes: size_of(ways.missing(mutes)) for mutes in found}
        return sorted(found, key=lambda one: (left[one], one))

    def cover(self, mutes):
        """The cover whose members are these mutes, and whose rows are the ways, each with those that it has none of."""
        ways = Misses(self.ways)
        members = Misses(mutes)
        having = [ways.missing(lot) for lot in mutes]
        return Cover(len(mutes), having, [members.missing(way) for way in self.ways])

    def least(self):
        """A number below which there is surely no row of so many ways."""
        # Mutes that have a switch of each way are no more than there are ways.
        return self.most + 1 if sum(self.load) > 0 else 0

    def apart(self, ways, many):
        """The list of so many of these ways no two of which have a switch in common; None if none came."""
        if many == 0:
            return []
        for at, k in enumerate(ways):
            self.steps += 1
            if self.steps > MOST_STEPS:
                return None
            rest = [other for other in ways[at + 1:] if not self.ways[other] & self.ways[k]]
            more = self.apart(rest, many - 1) if len(rest) >= many - 1 else None
            if more is not None:
                return [k] + more
        return None

    def fewest(self, most):
        """The list of the numbers of as few tries as can be; None if there are none, or only more than most."""
        if self.least() > most:
            return None
        if self.least() > 0:
            self.steps = 0
            found = self.apart(list(range(len(self.ways))), self.least())
            if found is not None:
                return found
        return self.cover(self.hard_mutes()).fewest(self.least(), most)

    def is_hit(self, ways, budget):
        """Whether mutes of at most so many switches have one of each of these ways."""
        if not ways:
            return True
        if budget == 0:
            return False
        left = ways[0]
        while left:
            bit = left & -left
            left ^= bit
            if self.is_hit([way for way in ways if not way & bit], budget - 1):
                return True
        return False


def check_quest(box, load, most):
    """Raise BadBox, BadLoad, BadMost unless all are as they are described."""
    check_box_load(box, load)
    check_most(most)


def tries(box, load, most):
    """A row of as few tries as can be; None if there is none."""
    check_quest(box, load, most)
    quest = Quest(box, load, most)
    rows = quest.fewest(len(quest.ways))
    return None if rows is None else [quest.switches[k] for k in rows]


def are_tries(box, load, most, thing):
    """Whether any value is a row of tries."""
    check_quest(box, load, most)
    quest = Quest(box, load, most)
    if not is_row(thing):
        return False
    for way in thing:
        if not is_plain(way) or way not in quest.place:
            return False
    return not quest.is_hit([quest.finder.lot_of(way) for way in thing], most)


def check_shield_number(number):
    """Raise BadNumber unless number is a number from 0 to 99."""
    if not is_within(number, 0, MOST_NUMBER):
        raise BadNumber("number is a number from 0 to 99")


def shield_nodes(quest, mutes, cover, number):
    """A shield for the number, there being no row of so few tries; its keys are tuples of numbers of ways."""
    nodes = {}
    rest = [()]
    while rest:
        key = rest.pop()
        if key in nodes:
            continue
        left = cover.every_member
        for k in key:
            left = beyond(left, cover.rows[k])
        found = cover.numbers(left, number - len(key))
        if found is not None:
            nodes[key] = ("numbers", {quest.finder.switches_in(mutes[one]): found[one] for one in found})
            continue
        member = first_of(left)
        nodes[key] = ("mutes", quest.finder.switches_in(mutes[member]))
        if len(key) < number:
            for k in members_of(cover.having[member]):
                rest.append(tuple(sorted(key + (k,))))
    return nodes


def shield(box, load, most, number):
    """A shield for the number; None if there is a row of at most so many tries."""
    check_quest(box, load, most)
    check_shield_number(number)
    quest = Quest(box, load, most)
    if quest.fewest(number) is not None:
        return None
    mutes = quest.hard_mutes()
    nodes = shield_nodes(quest, mutes, quest.cover(mutes), number)
    found = {}
    for key in sorted(nodes):
        word, what = nodes[key]
        if word == "numbers":
            what = {one: what[one] for one in sorted(what)}
        found[tuple([quest.switches[k] for k in key])] = (word, what)
    return found


class ShieldJudge:
    """What is needed to judge shields for a number: keys, as tuples of numbers of ways, and their nodes."""

    def __init__(self, quest, number):
        self.quest = quest
        self.number = number
        self.ways = Misses(quest.ways)
        self.known = {quest.finder.switches_in(mutes): mutes for mutes in quest.mutes}

    def key_told(self, thing):
        """The ascending tuple of the numbers of the ways that any value tells; None if it is no key."""
        if not isinstance(thing, tuple) or not is_plain(thing) or len(thing) > self.number:
            return None
        found = []
        for way in thing:
            if way not in self.quest.place:
                return None
            found.append(self.quest.place[way])
        key = tuple(found)
        return key if key == tuple(sorted({k: True for k in key})) else None

    def mutes_told(self, key, thing):
        """The mutes, as a lot, that any value tells and that have a switch of each way of the key; None if none."""
        if not is_lot(self.quest.box, thing) or thing not in self.known:
            return None
        lot = self.known[thing]
        for k in key:
            if not self.quest.ways[k] & lot:
                return None
        return lot

    def is_shield(self, thing):
        """Whether any value is a shield."""
        if not isinstance(thing, dict):
            return False
        nodes = {}
        for told, node in thing.items():
            key = self.key_told(told)
            if key is None or not is_tuple_of(node, 2):
                return False
            nodes[key] = node
        if () not in nodes:
            return False
        for key in nodes:
            word, what = nodes[key]
            if word == "mutes":
                if not self.is_mutes_node(nodes, key, what):
                    return False
            elif word != "numbers" or not self.is_numbers_node(key, what):
                return False
        return True

    def is_mutes_node(self, nodes, key, thing):
        """Whether any value is mutes such that the key with any way that has none of them is a key."""
        lot = self.mutes_told(key, thing)
        if lot is None:
            return False
        if len(key) < self.number:
            for k, way in enumerate(self.quest.ways):
                if not way & lot and tuple(sorted(key + (k,))) not in nodes:
                    return False
        return True

    def is_numbers_node(self, key, thing):
        """Whether any value is a dict of numbers that no ways, as many as are wanting in the key, bear."""
        if not isinstance(thing, dict):
            return False
        worths = []
        for mutes, worth in thing.items():
            lot = self.mutes_told(key, mutes)
            if lot is None or not is_within(worth, 1, MOST_WORTH):
                return False
            worths.append((lot, worth))
        total = sum([worth for _, worth in worths])
        more = self.number - len(key)
        if more == 0:
            return total > 0 or len(self.quest.ways) == 0
        sums = Sums(len(self.quest.ways))
        for lot, worth in worths:
            sums.raise_by(self.ways.missing(lot), worth)
        # What is borne, times more, is to be less than all.
        return not sums.reaches((total + more - 1) // more)


def is_shield(box, load, most, number, thing):
    """Whether any value is a shield for the number."""
    check_quest(box, load, most)
    check_shield_number(number)
    return ShieldJudge(Quest(box, load, most), number).is_shield(thing)
