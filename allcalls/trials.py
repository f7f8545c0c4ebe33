"""Hidden breaks: mute switches, the trials that are made, and what they tell."""

from math import comb

from allcalls.boxes import is_lot
from allcalls.breaktables import all_lots
from allcalls.counts import pair_place
from allcalls.errors import BadHeard, BadMost, BadMutes, BadTelling, BadTrial, BadTrials, TooMany
from allcalls.finders import Finder
from allcalls.frames import check_frame
from allcalls.kinds import is_row, is_tuple_of, is_within
from allcalls.ways import is_standing_of

MOST_MOST = 3
MOST_MUTES = 5000
WHOLE = "whole"
EACH = "each"


def check_most(most):
    """Raise BadMost unless most is a number from 0 to 3."""
    if not is_within(most, 0, MOST_MOST):
        raise BadMost("most is a number from 0 to 3")


def check_telling(telling):
    """Raise BadTelling unless telling is "whole" or "each"."""
    if not isinstance(telling, str) or telling not in (WHOLE, EACH):
        raise BadTelling("telling is whole or each")


def reached(box, frame):
    """The ascending list of the switches within reach of the frame."""
    places = {}
    for load in frame:
        for place, number in enumerate(load):
            if number > 0:
                places[place] = True
    return [switch for switch in box.switches if pair_place(box.sides, switch[0][0], switch[1][0]) in places]


def within_reach(box, frame):
    """The ascending tuple of the switches within reach of the frame."""
    check_frame(box, frame)
    return tuple(reached(box, frame))


def mutes_of(box, frame, most):
    """The ascending list of all mutes; TooMany(5000) if there are more."""
    switches = reached(box, frame)
    if sum([comb(len(switches), many) for many in range(most + 1)]) > MOST_MUTES:
        raise TooMany(MOST_MUTES)
    return all_lots(switches, most)


def all_mutes(box, frame, most):
    """The ascending list of all mutes."""
    check_frame(box, frame)
    check_most(most)
    return mutes_of(box, frame, most)


def is_within_reach(box, frame, thing):
    """Whether any value is an ascending tuple of different switches within reach of the frame."""
    if not is_lot(box, thing):
        return False
    known = {switch: True for switch in reached(box, frame)}
    for switch in thing:
        if switch not in known:
            return False
    return True


def is_trial(box, frame, thing):
    """Whether any value is a standing that is not ()."""
    return is_standing_of(box, frame, thing) and len(thing) > 0


def told_by(telling, mutes, trial):
    """What the trial tells if just these switches, given as anything that tells what is in it, are mute."""
    ringing = tuple([switch for switch in trial if switch not in mutes])
    return ringing if telling == EACH else len(ringing) == len(trial)


def told(box, frame, telling, mutes, trial):
    """What the trial tells if just these switches are mute."""
    check_frame(box, frame)
    check_telling(telling)
    if not is_within_reach(box, frame, mutes):
        raise BadMutes("mutes is an ascending tuple of different switches within reach")
    if not is_trial(box, frame, trial):
        raise BadTrial("trial is a standing that is not ()")
    return told_by(telling, mutes, trial)


def is_heard(box, frame, telling, thing):
    """Whether any value is a pair of a trial and of what it may tell."""
    if not is_tuple_of(thing, 2) or not is_trial(box, frame, thing[0]):
        return False
    if telling == WHOLE:
        return isinstance(thing[1], bool)
    if not is_lot(box, thing[1]):
        return False
    for switch in thing[1]:
        if switch not in thing[0]:
            return False
    return True


def check_heard(box, frame, telling, heard):
    """Raise BadHeard with the index of the first item that is wrong, or None if heard is no list."""
    if not is_row(heard):
        raise BadHeard(None)
    for at, item in enumerate(heard):
        if not is_heard(box, frame, telling, item):
            raise BadHeard(at)


def lot_told(finder, telling, thing):
    """What a trial tells, with a lot of the finder for a tuple of switches."""
    return finder.lot_of(thing) if telling == EACH else thing


def lot_telling(telling, mutes, trial):
    """What the trial tells if just these switches are mute, all of them being lots."""
    return trial & ~mutes if telling == EACH else not trial & mutes


def left(box, frame, telling, most, heard):
    """The ascending list of all mutes with which each trial tells just what is heard."""
    check_frame(box, frame)
    check_telling(telling)
    check_most(most)
    check_heard(box, frame, telling, heard)
    finder = Finder(box)
    found = [(mutes, finder.lot_of(mutes)) for mutes in mutes_of(box, frame, most)]
    for trial, thing in heard:
        lot = finder.lot_of(trial)
        goal = lot_told(finder, telling, thing)
        found = [(mutes, mark) for mutes, mark in found if lot_telling(telling, mark, lot) == goal]
    return [mutes for mutes, _ in found]


def twins(box, frame, telling, most, trials):
    """The first pair of different mutes with which each of the trials tells the same; None if there is none."""
    check_frame(box, frame)
    check_telling(telling)
    check_most(most)
    if not is_row(trials):
        raise BadTrials(None)
    for at, trial in enumerate(trials):
        if not is_trial(box, frame, trial):
            raise BadTrials(at)
    finder = Finder(box)
    lots = [finder.lot_of(trial) for trial in trials]
    firsts = {}
    pairs = []
    for mutes in mutes_of(box, frame, most):
        mark = finder.lot_of(mutes)
        name = tuple([lot_telling(telling, mark, lot) for lot in lots])
        if name in firsts:
            pairs.append((firsts[name], mutes))
        else:
            firsts[name] = mutes
    # Each pair has the first one that tells the same, so the first of all pairs is among them.
    return min(pairs) if pairs else None
