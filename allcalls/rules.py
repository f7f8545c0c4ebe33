"""Rules: which free switch is taken, where nothing is ever moved; and the grade of a box."""

from itertools import permutations

from allcalls.boxes import has_switch
from allcalls.counts import first_loads
from allcalls.dooms import least_in
from allcalls.errors import BadRule, TooMany
from allcalls.frames import check_frame
from allcalls.games import Table
from allcalls.keepings import ends_within, is_standing_tuple
from allcalls.stricts import first_stuck_of, with_switch
from allcalls.ways import MOST_STANDINGS, Wanted, all_standings, less, pins_of

MOST_RULED = 6


def is_rule(box, thing):
    """Whether any value is a tuple of all switches of the box in any order."""
    if not isinstance(thing, tuple) or len(thing) != len(box.switches):
        return False
    for switch in thing:
        if not has_switch(box, switch):
            return False
    return tuple(sorted(thing)) == box.switches


def check_rule(box, frame, rule):
    """Raise BadBox, BadFrame, BadRule unless these are a box, a frame of it and a rule of the box."""
    check_frame(box, frame)
    if not is_rule(box, rule):
        raise BadRule("rule is a tuple of all switches of the box")


def ruled_answer(rule, way, pair):
    """The standing with the first free switch of the rule between the two sides; None if none is free."""
    taken = pins_of(way)
    for low, high in rule:
        if low[0] == pair[0] and high[0] == pair[1] and low not in taken and high not in taken:
            return with_switch(way, (low, high))
    return None


def ruled(rule, way, asking):
    """The standing to which the asking leads by the rule; None if the standing is stuck for it."""
    if asking[0] == "end":
        return less(way, asking[1])
    return ruled_answer(rule, way, asking[1])


def row_to(came, way):
    """The list of the askings by which the standing was come to."""
    row = []
    while came[way] is not None:
        way, asking = came[way]
        row.append(asking)
    return row[::-1]


def rule_walk(box, frame, rule, stops):
    """The pair of the standings of the rule and the first row of askings by which it fails (None if it never does).

    The standings are the keys of a dict. If the walk stops at the first failing, they need not be all.
    """
    wanted = Wanted(box, frame)
    came = {(): None}
    reached = [()]
    failing = None
    done = 0
    # The first shortest rows come first, since each standing's askings are taken ascending.
    while done < len(reached) and (failing is None or not stops):
        way = reached[done]
        done += 1
        for asking in wanted.askings_at(way):
            other = ruled(rule, way, asking)
            if other is None:
                if failing is None:
                    failing = row_to(came, way) + [asking]
            elif other not in came:
                came[other] = (way, asking)
                reached.append(other)
    return (came, failing)


def rule_standings(box, frame, rule):
    """The ascending list of the standings that are come to by the rule."""
    check_rule(box, frame, rule)
    # More standings than can be told of are refused, however few of them the rule comes to.
    all_standings(box, frame)
    came, _ = rule_walk(box, frame, rule, False)
    return sorted(came)


def rule_fails(box, frame, rule):
    """The first shortest list of askings by which the rule fails; None if it never does."""
    check_rule(box, frame, rule)
    all_standings(box, frame)
    _, failing = rule_walk(box, frame, rule, True)
    return failing


def is_rule_paper(box, frame, rule, thing):
    """Whether any value is a tuple of standings, none stuck, that the rule does not lead out of."""
    check_rule(box, frame, rule)
    if not is_standing_tuple(box, frame, thing):
        return False
    wanted = Wanted(box, frame)
    known = {way: True for way in thing}
    if () not in known:
        return False
    for way in thing:
        if not ends_within(way, known):
            return False
        for pair in wanted.pairs_at(way):
            # None is no key, so a stuck standing is refused as well.
            if ruled_answer(rule, way, pair) not in known:
                return False
    return True


def good_rule(box, frame):
    """The first rule that never fails; None if there is none."""
    check_frame(box, frame)
    if len(box.switches) > MOST_RULED:
        raise TooMany(MOST_RULED)
    switches = list(box.switches)
    for rule in permutations(switches):
        _, failing = rule_walk(box, frame, rule, True)
        if failing is None:
            return rule
    return None


def grade(box, frame):
    """How wise one must be to answer all askings: ("strict",), ("wise", moves) or ("never", load)."""
    check_frame(box, frame)
    table = Table(box, frame)
    if first_stuck_of(box, frame, table.ways) is None:
        return ("strict",)
    number = least_in(table, frame)
    if number is not None:
        return ("wise", number)
    # Each standing carries one load, so among so many loads there is one without a way.
    for load in first_loads(frame, MOST_STANDINGS + 1):
        if load not in table.groups:
            return ("never", load)
    return None
