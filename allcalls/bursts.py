"""Bursts: many askings at once, answered together."""

from itertools import combinations

from allcalls.boxes import is_lot
from allcalls.counts import is_load_of, is_of, side_pairs, summed
from allcalls.errors import BadBurst, BadMany, TooMany
from allcalls.frames import check_frame, check_moves, check_standing
from allcalls.games import Table, is_few
from allcalls.keepings import check_game
from allcalls.kinds import is_number, is_plain, is_tuple_of, is_within, rises
from allcalls.swarms import MOST_BURSTS, BurstCounts, Siege, Swarm, check_bursts
from allcalls.tallies import loads_above
from allcalls.ways import load_of, refilled

MOST_MANY = 30
# With as many moves as a standing can have wires ahead of a burst that wants one more, all may be moved.
ENOUGH_MOVES = 14


def check_many(many):
    """Raise BadMany unless many is a number from 1 to 30."""
    if not is_within(many, 1, MOST_MANY):
        raise BadMany("many is a number from 1 to 30")


def check_burst_game(box, frame, moves, many):
    """Raise BadBox, BadFrame, BadMoves, BadMany unless all are as they are described."""
    check_game(box, frame, moves)
    check_many(many)


def bursts(box, frame, many, standing):
    """The ascending list of all bursts at the standing."""
    check_frame(box, frame)
    check_many(many)
    check_standing(box, frame, standing)
    if BurstCounts(frame, many).tally(load_of(box.sides, standing)) > MOST_BURSTS:
        raise TooMany(MOST_BURSTS)
    wires = list(standing)
    found = []
    known = {}
    for number in range(min(many, len(wires)) + 1):
        for gone in combinations(wires, number):
            stay = load_of(box.sides, [wire for wire in wires if wire not in gone])
            if (stay, number) not in known:
                known[(stay, number)] = loads_above(frame, stay, many - number)
            found.extend([(gone, more) for more in known[(stay, number)]])
    # The first one asks for nothing.
    return sorted(found)[1:]


def is_burst_at(box, frame, many, standing, thing):
    """Whether any value is a burst at the standing."""
    if not is_tuple_of(thing, 2) or not is_lot(box, thing[0]) or not is_load_of(box.sides, thing[1]):
        return False
    gone, more = thing
    for wire in gone:
        if wire not in standing:
            return False
    stay = load_of(box.sides, [wire for wire in standing if wire not in gone])
    return 1 <= len(gone) + sum(more) <= many and is_of(frame, summed(stay, more))


def burst_answers(box, frame, moves, many, standing, burst):
    """The ascending list of all answers to the burst at the standing, with so many moves."""
    check_burst_game(box, frame, moves, many)
    check_standing(box, frame, standing)
    if not is_burst_at(box, frame, many, standing, burst):
        raise BadBurst("burst is a burst at the standing")
    gone, more = burst
    stay = tuple([wire for wire in standing if wire not in gone])
    if sum(more) == 0:
        return [stay]
    wanted = []
    for pair, number in zip(side_pairs(box.sides), more):
        wanted.extend([pair] * number)
    return sorted(refilled(box, moves, stay, wanted, None))


def burst_table(box, frame, many):
    """All standings of what was checked before; TooMany for more than 5000, or for one with more than 20000 bursts."""
    table = Table(box, frame)
    check_bursts(frame, many, table.groups)
    return table


def siege_of(box, frame, moves, many):
    """The game of bursts, the arguments being checked."""
    check_burst_game(box, frame, moves, many)
    return Siege(Swarm(burst_table(box, frame, many), frame, many), moves)


def burst_keeping(box, frame, moves, many):
    """The burst keeping that has all standings of all of them; None if there is none."""
    return siege_of(box, frame, moves, many).kept()


def burst_doom(box, frame, moves, many):
    """The dict from all lost standings to their ranks and first bursts; None if there is a burst keeping."""
    siege = siege_of(box, frame, moves, many)
    if siege.kept() is not None:
        return None
    return {siege.table.ways[k]: siege.nodes[k] for k in sorted(siege.nodes)}


def numbers_of(table, thing):
    """The list of the numbers of the standings that any value has; None if it is no ascending tuple of such."""
    if not isinstance(thing, tuple):
        return None
    found = []
    for way in thing:
        if not is_plain(way) or way not in table.place:
            return None
        found.append(table.place[way])
    return found if rises(found) else None


def are_answered(swarm, moves, groups, load):
    """Whether each goal of the load is answered within groups at each standing of the load there."""
    if swarm.lacks[load] is not None and swarm.lacks[load] <= swarm.many:
        return False
    marks = swarm.table.marks
    for _, other in swarm.goals[load]:
        within = groups.get(other, [])
        for k in groups[load]:
            if not is_some_near(marks, moves, k, within):
                return False
    return True


def is_some_near(marks, moves, k, within):
    """Whether one of these numbers stands for a standing that lacks few switches of that of number k."""
    for other in within:
        if is_few(marks[k] & ~marks[other], moves):
            return True
    return False


def is_burst_keeping(box, frame, moves, many, thing):
    """Whether any value is a burst keeping."""
    check_burst_game(box, frame, moves, many)
    table = burst_table(box, frame, many)
    numbers = numbers_of(table, thing)
    if numbers is None or 0 not in numbers:
        return False
    known = {k: True for k in numbers}
    groups = {}
    for k in numbers:
        # With one asking each wire may end, so whatever may stay is among them.
        for other in table.ends[k]:
            if other not in known:
                return False
        groups.setdefault(table.loads[k], []).append(k)
    swarm = Swarm(table, frame, many)
    for load in groups:
        if not are_answered(swarm, moves, groups, load):
            return False
    return True


def is_burst_fall(table, moves, nodes, k):
    """Whether each answer to the burst at the standing of number k has a node with a lesser rank."""
    rank, burst = nodes[k]
    gone, more = burst
    stay = tuple([wire for wire in table.ways[k] if wire not in gone])
    own = table.place[stay]
    if sum(more) == 0:
        return own in nodes and nodes[own][0] < rank
    for other in table.groups.get(summed(table.loads[own], more), []):
        if is_few(table.marks[own] & ~table.marks[other], moves):
            if other not in nodes or nodes[other][0] >= rank:
                return False
    return True


def is_burst_doom(box, frame, moves, many, thing):
    """Whether any value is a burst doom."""
    check_burst_game(box, frame, moves, many)
    table = burst_table(box, frame, many)
    if not isinstance(thing, dict):
        return False
    nodes = {}
    for way, node in thing.items():
        if not is_plain(way) or way not in table.place:
            return False
        if not is_tuple_of(node, 2) or not is_number(node[0]) or node[0] < 0:
            return False
        if not is_burst_at(box, frame, many, way, node[1]):
            return False
        nodes[table.place[way]] = node
    if 0 not in nodes:
        return False
    for k in nodes:
        if not is_burst_fall(table, moves, nodes, k):
            return False
    return True


def are_all_carried(table, frame):
    """Whether the box has a way for each load of the frame."""
    for load in frame:
        if load not in table.groups:
            return False
    return True


def is_keepable(table, frame, moves, many):
    """Whether there is a burst keeping."""
    return Siege(Swarm(table, frame, many), moves).kept() is not None


def burst_moves(box, frame, many):
    """The least number of moves with which there is a burst keeping; None if there is none with any."""
    check_frame(box, frame)
    check_many(many)
    table = burst_table(box, frame, many)
    if not are_all_carried(table, frame):
        return None
    for moves in range(ENOUGH_MOVES):
        if is_keepable(table, frame, moves, many):
            return moves
    return ENOUGH_MOVES


def greatest_burst(box, frame, moves):
    """The greatest many up to 30 with a burst keeping; None if there is none with many 1."""
    check_frame(box, frame)
    check_moves(moves)
    table = burst_table(box, frame, MOST_MANY)
    if not are_all_carried(table, frame) or not is_keepable(table, frame, moves, 1):
        return None
    low = 1
    high = MOST_MANY
    # What is kept for many is kept for less.
    while low < high:
        middle = (low + high + 1) // 2
        if is_keepable(table, frame, moves, middle):
            low = middle
        else:
            high = middle - 1
    return low


def patience(box, frame, moves):
    """The least many with a burst keeping for many * moves moves; None if there is none up to 30."""
    check_frame(box, frame)
    check_moves(moves)
    table = burst_table(box, frame, MOST_MANY)
    if not are_all_carried(table, frame):
        return None
    for many in range(1, MOST_MANY + 1):
        if is_keepable(table, frame, many * moves, many):
            return many
        if moves == 0:
            # Without moves bursts are no harder than askings one by one.
            return None
    return None
