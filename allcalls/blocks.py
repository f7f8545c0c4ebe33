"""Whether any telling is enough: the effects of endless many rows, and the game in which they are told."""

from allcalls.ages import Ages
from allcalls.effects import Effects, effect_told
from allcalls.errors import BadRow
from allcalls.foreseen import is_row_at, set_after
from allcalls.keepings import check_game
from allcalls.kinds import is_number, is_plain, is_tuple_of, is_within, rises
from allcalls.seats import called, check_frame_load


def effect(box, frame, moves, load, row):
    """The effect of the row at the load: a triple of the load, the one behind it, and pairs of seatings."""
    check_game(box, frame, moves)
    check_frame_load(box, frame, load)
    if not is_row_at(box, frame, load, row):
        raise BadRow("row is a row of calls at the load")
    ages = Ages(box, frame, moves)
    other = load
    for call in row:
        other = called(box.sides, other, call)
    pairs = []
    for number in ages.group(load):
        held = set_after(ages, ages.shelf.put([number]), load, row)
        pairs.extend([(number, one) for one in ages.shelf.rows[held]])
    return effect_told(ages, (load, other, tuple(pairs)))


class Blocks:
    """The game in which endless effects are told: they are numbered ascending.

    loads, others: the loads at which they begin and end. parts: for each a dict from the seatings of its first load
    to the sets that may be taken. first: from each load to the numbers of the effects that begin there. sets: for
    each effect the set of the seatings with which it is not lost; lost: the list of the triples of rank, first number
    and set of those with which it is.
    """

    def __init__(self, ages):
        self.ages = ages
        self.effects = Effects(ages)
        ends = {k: True for k in self.effects.ends}
        told = [(self.effects.numbered(k), k) for k in range(len(self.effects.loads)) if k not in ends]
        self.told = sorted(told)
        self.loads = [self.effects.loads[k] for _, k in self.told]
        self.others = [self.effects.others[k] for _, k in self.told]
        self.parts = []
        self.first = {}
        for number, (_, k) in enumerate(self.told):
            self.parts.append({one: held for one, held in zip(ages.group(self.loads[number]), self.effects.parts[k])})
            self.first.setdefault(self.loads[number], []).append(number)
        self.touches = {}

    def solve(self):
        """The pair of the lists of the sets that are not lost, and of triples of those that are, for each effect."""
        sets = [self.ages.all_with(load) for load in self.loads]
        lost = [[] for _ in self.loads]
        fresh = list(range(len(sets)))
        rank = 0
        while fresh:
            conditions = self.least_numbers(sets, fresh)
            left = []
            for k in range(len(sets)):
                left.append(self.settle(k, sets[k], conditions.get(self.others[k], {}), rank, lost[k]))
            fresh = [k for k in range(len(sets)) if left[k] != sets[k]]
            sets = left
            rank += 1
        return (sets, lost)

    def least_numbers(self, sets, fresh):
        """For each load the dict from the sets of the fresh effects that begin there to the least of their numbers."""
        found = {}
        for k in fresh:
            found.setdefault(self.loads[k], {}).setdefault(sets[k], k)
        return found

    def settle(self, k, held, conditions, rank, lost):
        """What is left of the set held if each condition must be met; what is not is put into lost."""
        left = held
        for goal, number in conditions.items():
            if not self.ages.shelf.rows[left]:
                break
            out, left = self.ages.shelf.parted(left, self.touching(k, goal))
            if self.ages.shelf.rows[out]:
                lost.append((rank, number, out))
        return left

    def touching(self, k, goal):
        """The set of the seatings from which the effect of number k leads to one of the set goal."""
        if (k, goal) not in self.touches:
            shelf = self.ages.shelf
            found = []
            for one, held in self.parts[k].items():
                if self.is_touching(held, goal):
                    found.append(one)
            self.touches[(k, goal)] = shelf.put(found)
        return self.touches[(k, goal)]

    def is_touching(self, held, goal):
        """Whether two sets have a member in common."""
        _, both = self.ages.shelf.parted(held, goal)
        return len(self.ages.shelf.rows[both]) > 0


def blocks_of(box, frame, moves):
    """The game of endless effects; TooMany for more than 5000 seatings or 2000 effects."""
    check_game(box, frame, moves)
    return Blocks(Ages(box, frame, moves))


def endless_effects(box, frame, moves):
    """The ascending list of all endless effects of rows at loads of the frame."""
    blocks = blocks_of(box, frame, moves)
    return [effect_told(blocks.ages, numbered) for numbered, _ in blocks.told]


def first_effects(blocks):
    """The list of the numbers of the effects that begin at the load of no wires."""
    return blocks.first.get(blocks.ages.loads[0], [])


def is_kept(blocks, sets):
    """Whether these sets have the empty seating for each effect that begins at the load of no wires."""
    for k in first_effects(blocks):
        if 0 not in blocks.ages.shelf.known_in(sets[k]):
            return False
    return True


def block_keeping(box, frame, moves):
    """The block keeping that has all block positions of all of them; None if there is none."""
    blocks = blocks_of(box, frame, moves)
    sets, _ = blocks.solve()
    if not is_kept(blocks, sets):
        return None
    found = []
    for number, seating in enumerate(blocks.ages.seatings):
        for k in blocks.first.get(blocks.ages.loads[number], []):
            if number in blocks.ages.shelf.known_in(sets[k]):
                found.append((seating, k))
    return tuple(found)


def block_doom(box, frame, moves):
    """The dict from all lost block positions to their ranks and first numbers; None if there is a block keeping."""
    blocks = blocks_of(box, frame, moves)
    sets, lost = blocks.solve()
    if is_kept(blocks, sets):
        return None
    nodes = {}
    for k, found in enumerate(lost):
        for rank, told, out in found:
            for number in blocks.ages.shelf.rows[out]:
                nodes[(number, k)] = (rank, told)
    return {(blocks.ages.seatings[number], k): nodes[(number, k)] for number, k in sorted(nodes)}


def place_of(blocks, thing):
    """The pair of the numbers of the seating and of the effect of any value; None if it is no block position."""
    if not is_tuple_of(thing, 2) or not is_plain(thing) or thing[0] not in blocks.ages.place:
        return None
    number = blocks.ages.place[thing[0]]
    if not is_within(thing[1], 0, len(blocks.loads) - 1) or blocks.loads[thing[1]] != blocks.ages.loads[number]:
        return None
    return (number, thing[1])


def sets_of(blocks, thing):
    """The list of the sets for all effects that any value stands for; None if it is no tuple of block positions."""
    if not isinstance(thing, tuple):
        return None
    found = [place_of(blocks, item) for item in thing]
    if None in found or not rises(found):
        return None
    members = [[] for _ in blocks.loads]
    for number, k in found:
        members[k].append(number)
    return [blocks.ages.shelf.put(row) for row in members]


def is_block_keeping(box, frame, moves, thing):
    """Whether any value is a block keeping."""
    blocks = blocks_of(box, frame, moves)
    sets = sets_of(blocks, thing)
    if sets is None or not is_kept(blocks, sets):
        return False
    conditions = blocks.least_numbers(sets, list(range(len(sets))))
    for k in range(len(sets)):
        if blocks.settle(k, sets[k], conditions.get(blocks.others[k], {}), 0, []) != sets[k]:
            return False
    return True


def nodes_of(blocks, thing):
    """The dict from the places of the block positions in any value to their nodes; None if it is no such dict."""
    if not isinstance(thing, dict):
        return None
    nodes = {}
    for position, node in thing.items():
        place = place_of(blocks, position)
        if place is None or not is_tuple_of(node, 2) or not is_number(node[0]) or node[0] < 0:
            return None
        if not is_within(node[1], 0, len(blocks.loads) - 1) or blocks.loads[node[1]] != blocks.others[place[1]]:
            return None
        nodes[place] = node
    return nodes


def is_block_doom(box, frame, moves, thing):
    """Whether any value is a block doom."""
    blocks = blocks_of(box, frame, moves)
    nodes = nodes_of(blocks, thing)
    if nodes is None or not [k for k in first_effects(blocks) if (0, k) in nodes]:
        return False
    for number, k in nodes:
        rank, told = nodes[(number, k)]
        for other in blocks.ages.shelf.rows[blocks.parts[k][number]]:
            if (other, told) not in nodes or nodes[(other, told)][0] >= rank:
                return False
    return True


def enough_ahead(box, frame, moves):
    """How many calls told ahead are enough; None if there is a block doom."""
    blocks = blocks_of(box, frame, moves)
    sets, _ = blocks.solve()
    if not is_kept(blocks, sets):
        return None
    longest = max([blocks.effects.depths[k] for k in blocks.effects.ends] + [0])
    # Rows with one call more than the longest one that has no endless effect have one.
    return 2 * max(longest + 1, 1) - 1
