"""Keepings: sets of standings in which one can answer for ever, and strategies that stay in them."""

from allcalls.counts import is_pair_of_sides, one_more
from allcalls.errors import BadBarred
from allcalls.frames import check_frame, check_moves
from allcalls.games import Links, Table, is_few, kept_in, kept_ways, marks_of, places_of, ranks_of
from allcalls.kinds import is_tuple_of, rises
from allcalls.ways import Wanted, is_standing_of, less, load_of, pairs_wanted


def check_game(box, frame, moves):
    """Raise BadBox, BadFrame, BadMoves unless these are a box, a frame of it and a number of moves."""
    check_frame(box, frame)
    check_moves(moves)


def check_barred_game(box, frame, moves, barred):
    """Raise BadBox, BadFrame, BadMoves, BadBarred unless all are as they are described."""
    check_game(box, frame, moves)
    if not is_standing_tuple(box, frame, barred):
        raise BadBarred("barred is an ascending tuple of different standings")


def is_standing_tuple(box, frame, thing):
    """Whether any value is an ascending tuple of different standings."""
    if not isinstance(thing, tuple):
        return False
    for item in thing:
        if not is_standing_of(box, frame, item):
            return False
    return rises(thing)


def is_move_within(standing, other, moves):
    """Whether at most so many switches of the standing are missing in the other one."""
    gone = [switch for switch in standing if switch not in other]
    return len(gone) <= moves


def ends_within(standing, known):
    """Whether each standing that an end leaves is a key of known."""
    for switch in standing:
        if less(standing, switch) not in known:
            return False
    return True


def some_answer_within(mark, marks, moves):
    """Whether one of the marks lacks at most so many bits of the mark."""
    for other in marks:
        if is_few(mark & ~other, moves):
            return True
    return False


def are_wants_answered(box, frame, moves, standings):
    """Whether each want at each of the standings has an answer with so many moves among them."""
    groups = {}
    for standing, mark in zip(standings, marks_of(box, standings)):
        groups.setdefault(load_of(box.sides, standing), []).append(mark)
    for load, marks in groups.items():
        for pair in pairs_wanted(box.sides, frame, load):
            behind = groups.get(one_more(box.sides, load, pair), [])
            for mark in marks:
                if not some_answer_within(mark, behind, moves):
                    return False
    return True


def is_keeping_of(box, frame, moves, barred, thing):
    """Whether any value is a keeping, the other arguments having been checked."""
    if not is_standing_tuple(box, frame, thing):
        return False
    known = {standing: True for standing in thing}
    if () not in known:
        return False
    for standing in barred:
        if standing in known:
            return False
    for standing in thing:
        if not ends_within(standing, known):
            return False
    return are_wants_answered(box, frame, moves, thing)


def is_keeping(box, frame, moves, barred, thing):
    """Whether any value is a keeping."""
    check_barred_game(box, frame, moves, barred)
    return is_keeping_of(box, frame, moves, barred, thing)


def greatest_keeping(box, frame, moves, barred):
    """The keeping that has all standings of all keepings; None if there is none."""
    check_barred_game(box, frame, moves, barred)
    table = Table(box, frame)
    away = places_of(table, barred)
    return kept_ways(table, kept_in(table, ranks_of(table, Links(table, moves), away), away))


def strategy(box, frame, moves, barred):
    """The dict from all pairs (standing of the greatest keeping, pair wanted there) to the first answer in it."""
    check_barred_game(box, frame, moves, barred)
    table = Table(box, frame)
    links = Links(table, moves)
    away = places_of(table, barred)
    kept = kept_in(table, ranks_of(table, links, away), away)
    if not kept:
        return None
    known = {k: True for k in kept}
    found = {}
    for k in kept:
        for want in range(links.first[k], links.first[k + 1]):
            within = [other for other in links.answers[want] if other in known]
            found[(table.ways[k], links.pairs[want])] = table.ways[within[0]]
    return found


def is_told_answer(box, frame, moves, key, answer):
    """Whether a key and its answer are a pair (standing, pair wanted there) and an answer to this want."""
    if not is_tuple_of(key, 2) or not is_standing_of(box, frame, key[0]):
        return False
    if not is_pair_of_sides(box.sides, key[1]) or not is_standing_of(box, frame, answer):
        return False
    load = one_more(box.sides, load_of(box.sides, key[0]), key[1])
    return load_of(box.sides, answer) == load and is_move_within(key[0], answer, moves)


def is_strategy(box, frame, moves, barred, thing):
    """Whether any value is a strategy."""
    check_barred_game(box, frame, moves, barred)
    if not isinstance(thing, dict):
        return False
    away = {standing: True for standing in barred}
    for key, answer in thing.items():
        if not is_told_answer(box, frame, moves, key, answer) or answer in away:
            return False
    wanted = Wanted(box, frame)
    known = {(): True}
    reached = [()]
    while reached:
        standing = reached.pop()
        if standing in away:
            return False
        after = [less(standing, switch) for switch in standing]
        for pair in wanted.pairs_at(standing):
            if (standing, pair) not in thing:
                return False
            after.append(thing[(standing, pair)])
        for other in after:
            if other not in known:
                known[other] = True
                reached.append(other)
    return True
