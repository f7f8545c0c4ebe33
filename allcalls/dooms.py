"""Dooms: how an asker comes to what cannot be answered; the fewest moves, and what every keeping has."""

from allcalls.errors import BadStanding
from allcalls.frames import MOST_MOVES, check_frame
from allcalls.games import Links, Table, asking_of, counts_within, doom_of, fallen, kept_in, kept_ways, needed_doom
from allcalls.games import places_of, ranks_of
from allcalls.keepings import check_barred_game, check_game, is_keeping_of
from allcalls.kinds import is_number, is_tuple_of, is_within
from allcalls.ways import answers_to, is_asking_at, is_standing_of


def is_node(box, frame, standing, thing):
    """Whether any value is a pair of a rank and an asking at the standing."""
    if not is_tuple_of(thing, 2) or not is_number(thing[0]) or thing[0] < 0:
        return False
    return is_asking_at(box, frame, standing, thing[1])


def is_fall(box, moves, away, nodes, standing):
    """Whether each answer to the asking at the standing is barred or has a node with a lesser rank."""
    rank, asking = nodes[standing]
    # If there are more answers than that, one of them is neither barred nor a key.
    enough = len(nodes) + len(away) + 1
    for answer in answers_to(box, moves, standing, asking, enough):
        if answer in away:
            continue
        if answer not in nodes or nodes[answer][0] >= rank:
            return False
    return True


def is_doom_of(box, frame, moves, barred, thing):
    """Whether any value is a doom, the other arguments having been checked."""
    if not isinstance(thing, dict):
        return False
    away = {standing: True for standing in barred}
    if () in away:
        return len(thing) == 0
    for standing, node in thing.items():
        if not is_standing_of(box, frame, standing) or standing in away:
            return False
        if not is_node(box, frame, standing, node):
            return False
    if () not in thing:
        return False
    for standing in thing:
        if not is_fall(box, moves, away, thing, standing):
            return False
    return True


def is_doom(box, frame, moves, barred, thing):
    """Whether any value is a doom."""
    check_barred_game(box, frame, moves, barred)
    return is_doom_of(box, frame, moves, barred, thing)


def doom(box, frame, moves, barred):
    """The dict from all lost standings to their ranks and first askings; None if there is a keeping."""
    check_barred_game(box, frame, moves, barred)
    table = Table(box, frame)
    links = Links(table, moves)
    away = places_of(table, barred)
    ranks = ranks_of(table, links, away)
    if kept_in(table, ranks, away):
        return None
    return doom_of(table, links, ranks, away)


def bait(box, frame, moves, standing):
    """The first asking by which the standing has its rank, nothing barred; None if it has none."""
    check_game(box, frame, moves)
    if not is_standing_of(box, frame, standing):
        raise BadStanding("standing is a way of the box whose load is of the frame")
    table = Table(box, frame)
    links = Links(table, moves)
    ranks = ranks_of(table, links, {})
    k = table.place[standing]
    return None if ranks[k] is None else asking_of(table, links, ranks, {}, k)


def lost(box, frame, moves):
    """The ascending list of all lost standings, nothing barred."""
    check_game(box, frame, moves)
    table = Table(box, frame)
    ranks = ranks_of(table, Links(table, moves), {})
    return [way for way, rank in zip(table.ways, ranks) if rank is not None]


def are_all_carried(table, frame):
    """Whether the box has a way for each load of the frame."""
    for load in frame:
        if load not in table.groups:
            return False
    return True


def kept_with(table, moves):
    """The numbers of the greatest keeping with so many moves, nothing barred; [] if there is none."""
    return kept_in(table, ranks_of(table, Links(table, moves), {}), {})


def least_in(table, frame):
    """The least number of moves with which there is a keeping; None if there is none with any number."""
    if not are_all_carried(table, frame):
        return None
    for moves in range(MOST_MOVES + 1):
        if kept_with(table, moves):
            return moves
    return None


def least_moves(box, frame):
    """The least number of moves with which there is a keeping, nothing barred; None if there is none."""
    check_frame(box, frame)
    return least_in(Table(box, frame), frame)


def doom_with(table, moves):
    """The dict of all lost standings with so many moves, nothing barred."""
    links = Links(table, moves)
    return doom_of(table, links, ranks_of(table, links, {}), {})


def moves_paper(box, frame):
    """The least number of moves, the greatest keeping with it, and the doom with one move less."""
    check_frame(box, frame)
    table = Table(box, frame)
    number = least_in(table, frame)
    if number is None:
        return (None, None, doom_with(table, MOST_MOVES))
    keeping = kept_ways(table, kept_with(table, number))
    return (number, keeping, None if number == 0 else doom_with(table, number - 1))


def is_moves_paper(box, frame, thing):
    """Whether any value is the least number of moves with some keeping and some doom that show it."""
    check_frame(box, frame)
    if not is_tuple_of(thing, 3):
        return False
    number, keeping, fall = thing
    if number is None:
        return keeping is None and is_doom_of(box, frame, MOST_MOVES, (), fall)
    if not is_within(number, 0, MOST_MOVES) or not is_keeping_of(box, frame, number, (), keeping):
        return False
    if number == 0:
        return fall is None
    return is_doom_of(box, frame, number - 1, (), fall)


def mark_common(table, common, k):
    """Write into common the number k and those of all standings that ends lead to from there."""
    reached = [k]
    while reached:
        one = reached.pop()
        if one not in common:
            common[one] = True
            reached.extend(table.ends[one])


def common_in(table, links, kept):
    """The dict of the numbers of the standings that every keeping has, kept being those of the greatest one."""
    known = {k: True for k in kept}
    counts = counts_within(links, known)
    common = {0: True}
    spared = {}
    # What a common standing leaves by ends is common, so those with many wires are looked at first.
    for k in sorted(kept, key=lambda one: (-len(table.ways[one]), one)):
        if k in common or k in spared:
            continue
        gone = fallen(table, links, known, counts, k)
        if 0 in gone:
            mark_common(table, common, k)
        else:
            spared.update(gone)
    return common


def kept_game(box, frame, moves):
    """The table, its links and the numbers of the greatest keeping, nothing barred."""
    check_game(box, frame, moves)
    table = Table(box, frame)
    links = Links(table, moves)
    return (table, links, kept_in(table, ranks_of(table, links, {}), {}))


def common_standings(box, frame, moves):
    """The ascending list of the standings that every keeping has; None if there is no keeping."""
    table, links, kept = kept_game(box, frame, moves)
    if not kept:
        return None
    return [table.ways[k] for k in sorted(common_in(table, links, kept))]


def spared_papers(table, links, kept):
    """The dict from the numbers of the greatest keeping that are not common to keepings without them."""
    known = {k: True for k in kept}
    counts = counts_within(links, known)
    common = common_in(table, links, kept)
    papers = {}
    for k in kept:
        if k in common or k in papers:
            continue
        gone = fallen(table, links, known, counts, k)
        left = kept_ways(table, [one for one in kept if one not in gone])
        for one in gone:
            papers[one] = left
    return papers


def common_papers(box, frame, moves):
    """The dict from all standings of the greatest keeping but () to papers of their being common or spared."""
    table, links, kept = kept_game(box, frame, moves)
    if not kept:
        return None
    spared = spared_papers(table, links, kept)
    papers = {}
    for k in kept[1:]:
        if k in spared:
            papers[table.ways[k]] = ("spared", spared[k])
        else:
            away = {k: True}
            papers[table.ways[k]] = ("common", needed_doom(table, links, ranks_of(table, links, away), away))
    return papers


def is_common_paper(box, frame, moves, standing, thing):
    """Whether any value shows that the standing is common, or that it is spared."""
    if not is_tuple_of(thing, 2):
        return False
    if thing[0] == "common":
        return is_doom_of(box, frame, moves, (standing,), thing[1])
    return thing[0] == "spared" and is_keeping_of(box, frame, moves, (standing,), thing[1])


def are_common_papers(box, frame, moves, thing):
    """Whether any value is a dict from all standings of the greatest keeping but () to such papers."""
    table, _, kept = kept_game(box, frame, moves)
    if not kept or not isinstance(thing, dict) or len(thing) != len(kept) - 1:
        return False
    known = {table.ways[k]: True for k in kept[1:]}
    for standing, paper in thing.items():
        if not is_standing_of(box, frame, standing) or standing not in known:
            return False
        if not is_common_paper(box, frame, moves, standing, paper):
            return False
    return True
