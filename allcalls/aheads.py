"""Askings told ahead: with so many calls known before they are answered, can all of them be answered for ever?"""

from allcalls.ages import Ages
from allcalls.errors import BadAhead, BadKeeping, BadMost
from allcalls.keepings import check_game
from allcalls.kinds import is_number, is_plain, is_tuple_of, is_within, rises
from allcalls.plans import Falls, Plan, RowBook, check_positions

MOST_AHEAD = 6


def check_ahead_game(box, frame, moves, ahead, most):
    """Raise BadBox, BadFrame, BadMoves, BadAhead unless all are as they are described."""
    check_game(box, frame, moves)
    if not is_within(ahead, 0, most):
        raise BadAhead(f"ahead is a number from 0 to {most}")


def plan_of(box, frame, moves, ahead):
    """The plan with so many calls told ahead; TooMany for more than 5000 seatings or 20000 positions."""
    ages = Ages(box, frame, moves)
    book = RowBook(ages)
    check_positions(ages, book, ahead)
    return Plan(ages, book, ahead)


def starting_rows(plan):
    """The list of the numbers of the rows of all beginnings."""
    load = plan.ages.loads[0]
    return list(range(plan.first[load], plan.past[load]))


def is_kept(plan, sets):
    """Whether these sets for all rows have the empty seating for each beginning."""
    for k in starting_rows(plan):
        if 0 not in plan.ages.shelf.known_in(sets[k]):
            return False
    return True


def positions_in(plan, sets):
    """The ascending tuple of the positions that these sets for all rows stand for."""
    found = []
    for number, seating in enumerate(plan.ages.seatings):
        load = plan.ages.loads[number]
        for k in range(plan.first[load], plan.past[load]):
            if number in plan.ages.shelf.known_in(sets[k]):
                found.append((seating, plan.rows[k][0]))
    return tuple(found)


def ahead_keeping(box, frame, moves, ahead):
    """The ahead keeping that has all positions of all of them; None if there is none."""
    check_ahead_game(box, frame, moves, ahead, MOST_AHEAD)
    plan = plan_of(box, frame, moves, ahead)
    sets = Falls(plan).sets
    return positions_in(plan, sets) if is_kept(plan, sets) else None


def ahead_doom(box, frame, moves, ahead):
    """The dict from all lost positions to their ranks and first calls; None if there is an ahead keeping."""
    check_ahead_game(box, frame, moves, ahead, MOST_AHEAD)
    plan = plan_of(box, frame, moves, ahead)
    falls = Falls(plan)
    if is_kept(plan, falls.sets):
        return None
    nodes = {}
    for k, lost in enumerate(falls.lost):
        for rank, call, out in lost:
            for number in plan.ages.shelf.rows[out]:
                nodes[(number, k)] = (rank, call)
    return {(plan.ages.seatings[number], plan.rows[k][0]): nodes[(number, k)] for number, k in sorted(nodes)}


def row_places(plan):
    """The dict from each load to the dict from its rows to their numbers."""
    found = {load: {} for load in plan.first}
    for k, (row, _) in enumerate(plan.rows):
        found[plan.loads[k]][row] = k
    return found


def place_of(plan, places, thing):
    """The pair of the numbers of the seating and of the row of any value; None if it is no position."""
    if not is_tuple_of(thing, 2) or not is_plain(thing) or thing[0] not in plan.ages.place:
        return None
    number = plan.ages.place[thing[0]]
    rows = places[plan.ages.loads[number]]
    return (number, rows[thing[1]]) if thing[1] in rows else None


def sets_of(plan, thing):
    """The list of the sets for all rows that any value stands for; None if it is no ascending tuple of positions."""
    if not isinstance(thing, tuple):
        return None
    places = row_places(plan)
    found = [place_of(plan, places, item) for item in thing]
    if None in found or not rises(found):
        return None
    members = [[] for _ in plan.rows]
    for number, k in found:
        members[k].append(number)
    return [plan.ages.shelf.put(row) for row in members]


def is_answered(plan, sets, k):
    """Whether some answer within the sets follows each position of the row of number k, whatever is told."""
    ages = plan.ages
    if not ages.shelf.rows[sets[k]]:
        return True
    for step, block in zip(plan.steps[k], plan.blocks[k]):
        if block is None:
            return False
        for other in range(block[0], block[1]):
            out, _ = ages.shelf.parted(sets[k], ages.set_before(step, sets[other]))
            if ages.shelf.rows[out]:
                return False
    return True


def is_keeping_in(plan, thing):
    """Whether any value is an ahead keeping."""
    sets = sets_of(plan, thing)
    if sets is None or not is_kept(plan, sets):
        return False
    for k in range(len(sets)):
        if not is_answered(plan, sets, k):
            return False
    return True


def is_ahead_keeping(box, frame, moves, ahead, thing):
    """Whether any value is an ahead keeping."""
    check_ahead_game(box, frame, moves, ahead, MOST_AHEAD)
    return is_keeping_in(plan_of(box, frame, moves, ahead), thing)


def next_row(plan, k, call):
    """The pair of the step that is answered at the row of number k if this call is told, and the row told then.

    None if it is no call that may be told; a pair with None if the step leads to a load without seatings.
    """
    calls = plan.ages.calls_of(plan.rows[k][1])
    if not is_plain(call) or call not in calls:
        return None
    at = calls.index(call)
    own = at if plan.ahead == 0 else 0
    block = plan.blocks[k][own]
    if block is None:
        return (plan.steps[k][own], None)
    return (plan.steps[k][own], block[0] if plan.ahead == 0 else block[0] + at)


def are_lesser(plan, nodes, place, answers):
    """Whether each of a set of answers, with the row told then, has a rank that is less than that at the place."""
    rank, other = nodes[place]
    for number in plan.ages.shelf.rows[answers]:
        if (number, other[1]) not in nodes or nodes[(number, other[1])][0] >= rank:
            return False
    return True


def nodes_of(plan, thing):
    """The dict from the places of the positions in any value to pairs of a rank and what next_row tells; or None."""
    if not isinstance(thing, dict):
        return None
    places = row_places(plan)
    nodes = {}
    for position, node in thing.items():
        place = place_of(plan, places, position)
        if place is None or not is_tuple_of(node, 2) or not is_number(node[0]) or node[0] < 0:
            return None
        other = next_row(plan, place[1], node[1])
        if other is None:
            return None
        nodes[place] = (node[0], other)
    return nodes


def is_ahead_doom(box, frame, moves, ahead, thing):
    """Whether any value is an ahead doom."""
    check_ahead_game(box, frame, moves, ahead, MOST_AHEAD)
    plan = plan_of(box, frame, moves, ahead)
    nodes = nodes_of(plan, thing)
    if nodes is None or not [k for k in starting_rows(plan) if (0, k) in nodes]:
        return False
    for place in nodes:
        step, behind = nodes[place][1]
        if behind is None:
            continue
        answers = plan.ages.set_behind(step, plan.ages.shelf.put([place[0]]))
        if not are_lesser(plan, nodes, place, answers):
            return False
    return True


def longer(box, frame, moves, ahead, keeping):
    """The positions of an ahead keeping with one call more each: an ahead keeping for ahead + 1."""
    check_ahead_game(box, frame, moves, ahead, MOST_AHEAD - 1)
    ages = Ages(box, frame, moves)
    book = RowBook(ages)
    # With one call more told there are never fewer positions, but for the frame of zeros, which has one.
    check_positions(ages, book, ahead + 1)
    plan = Plan(ages, book, ahead)
    if not is_keeping_in(plan, keeping):
        raise BadKeeping("keeping is an ahead keeping")
    places = row_places(plan)
    found = []
    for seating, row in keeping:
        end = plan.rows[places[ages.loads[ages.place[seating]]][row]][1]
        found.extend([(seating, row + (call,)) for call in ages.calls_of(end)])
    return tuple(found)


def least_ahead(box, frame, moves, most):
    """The least number of calls told ahead, up to most, with an ahead keeping; None if there is none."""
    check_game(box, frame, moves)
    if not is_within(most, 0, MOST_AHEAD):
        raise BadMost("most is a number from 0 to 6")
    ages = Ages(box, frame, moves)
    book = RowBook(ages)
    check_positions(ages, book, most)
    for ahead in range(most + 1):
        plan = Plan(ages, book, ahead)
        if is_kept(plan, Falls(plan).sets):
            return ahead
    return None
