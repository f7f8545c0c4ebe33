"""What a box costs on the long run: how many wires are moved for each asking, shown from both sides by numbers."""

from allcalls.errors import BadAsking, BadPair
from allcalls.frames import check_standing
from allcalls.kinds import is_number, is_tuple_of, is_within
from allcalls.tolls import Tolls, Worth, check_toll_game, is_answered, least_needs, longest
from allcalls.ways import is_asking_at, is_standing_of

MOST_PART = 9999


def check_pair(pair):
    """Raise BadPair unless pair is a pair of numbers, the first from 0, the second from 1 to 9999."""
    if not is_tuple_of(pair, 2) or not is_within(pair[0], 0, MOST_PART) or not is_within(pair[1], 1, MOST_PART):
        raise BadPair("pair is a pair of a number from 0 and one from 1 to 9999")


def worth(box, frame):
    """The worth, as a pair in least terms: the costs of an asking on the long run."""
    check_toll_game(box, frame)
    found = Worth(Tolls(box, frame))
    return (found.up, found.down)


def cheap(box, frame, standing, asking):
    """The least cost of an answer to an asking."""
    check_toll_game(box, frame)
    check_standing(box, frame, standing)
    if not is_asking_at(box, frame, standing, asking):
        raise BadAsking("asking is an asking at the standing")
    return min([cost for _, cost in Tolls(box, frame).answers_at(standing, asking)])


def are_numbered(box, frame, thing):
    """Whether any value is a dict from standings to numbers from 0 on."""
    if not isinstance(thing, dict):
        return False
    for standing, number in thing.items():
        if not is_standing_of(box, frame, standing) or not is_number(number) or number < 0:
            return False
    return True


def is_low(box, frame, pair, thing):
    """Whether any value is a low paper for the pair."""
    check_toll_game(box, frame)
    check_pair(pair)
    tolls = Tolls(box, frame)
    if not are_numbered(box, frame, thing) or () not in thing:
        return False
    return is_answered(tolls, pair[0], pair[1], thing)


def is_high(box, frame, pair, thing):
    """Whether any value is a high paper for the pair."""
    check_toll_game(box, frame)
    check_pair(pair)
    tolls = Tolls(box, frame)
    if not are_numbered(box, frame, thing) or () not in thing:
        return False
    known = {tolls.place[standing]: number for standing, number in thing.items()}
    for k in known:
        if not [answers for answers in tolls.behind[k] if are_raised(known, pair, known[k], answers)]:
            return False
    return True


def are_raised(known, pair, number, answers):
    """Whether all answers are known and have, with their costs, at least the number and what the pair gives."""
    up, down = pair
    for other, cost in answers:
        if other not in known or down * cost + known[other] < number + up:
            return False
    return True


def low_paper(box, frame, pair):
    """The low paper that has all standings of all of them, each with the least number; None if there is none."""
    check_toll_game(box, frame)
    check_pair(pair)
    tolls = Tolls(box, frame)
    needs = least_needs(tolls, pair[0], pair[1])
    return None if needs is None else {way: need for way, need in zip(tolls.ways, needs)}


def high_paper(box, frame, pair):
    """A high paper for the pair; None if there is none."""
    check_toll_game(box, frame)
    check_pair(pair)
    tolls = Tolls(box, frame)
    up, down = pair
    found = Worth(tolls)
    if found.up * down < up * found.down:
        return None
    rows = [answers[place] for answers, place in zip(tolls.behind, found.quests)]
    # What is asked costs no less than the pair on the long run, so no round gives more than it takes.
    lacks = longest(rows, -down, -up)
    known = {0: True}
    reached = [0]
    while reached:
        k = reached.pop()
        for other, _ in rows[k]:
            if other not in known:
                known[other] = True
                reached.append(other)
    most = max([lacks[k] for k in known])
    return {tolls.ways[k]: most - lacks[k] for k in sorted(known)}
