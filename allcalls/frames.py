"""Loads, frames, ways, standings, askings and answers."""

from allcalls.boxes import MOST_SIDES, check_box, check_sides, check_tracks
from allcalls.counts import is_frame_of, is_load_of, top_loads
from allcalls.errors import BadAsking, BadFrame, BadMoves, BadStanding, BadWay, TooMany
from allcalls.kinds import is_within
from allcalls.ways import Wanted, all_standings, answers_to, is_asking_at, is_standing_of, is_way_of, load_of

MOST_MOVES = 20
MOST_LET = 20000
# Five sides with 4 tracks let 14751 loads, with 5 tracks 62781; fewer sides never let more than 3616.
MOST_FOR_FIVE = 4


def check_frame(box, frame):
    """Raise BadBox unless box is a Box, BadFrame unless frame is a frame of its sides."""
    check_box(box)
    if not is_frame_of(box.sides, frame):
        raise BadFrame("frame is an ascending tuple of loads of the sides, none below another one")


def check_moves(moves):
    """Raise BadMoves unless moves is a number from 0 to 20."""
    if not is_within(moves, 0, MOST_MOVES):
        raise BadMoves("moves is a number from 0 to 20")


def check_standing(box, frame, standing):
    """Raise BadStanding unless standing is a standing of the box and the frame."""
    if not is_standing_of(box, frame, standing):
        raise BadStanding("standing is a way of the box whose load is of the frame")


def is_load(sides, thing):
    """Whether any value is a load of so many sides."""
    check_sides(sides, MOST_SIDES)
    return is_load_of(sides, thing)


def is_frame(sides, thing):
    """Whether any value is a frame of so many sides."""
    check_sides(sides, MOST_SIDES)
    return is_frame_of(sides, thing)


def greatest_loads(sides, tracks):
    """The frame of all loads that so many tracks let."""
    check_sides(sides, MOST_SIDES)
    check_tracks(tracks, 0)
    if sides == MOST_SIDES and tracks > MOST_FOR_FIVE:
        raise TooMany(MOST_LET)
    return tuple(top_loads(sides, tracks))


def is_way(box, thing):
    """Whether any value is a way of the box."""
    check_box(box)
    return is_way_of(box, thing)


def way_load(box, way):
    """The load of a way of the box."""
    check_box(box)
    if not is_way_of(box, way):
        raise BadWay("way is an ascending tuple of switches of the box, no two of which meet")
    return load_of(box.sides, way)


def is_standing(box, frame, thing):
    """Whether any value is a standing of the box and the frame."""
    check_frame(box, frame)
    return is_standing_of(box, frame, thing)


def standings(box, frame):
    """The ascending list of all standings of the box and the frame."""
    check_frame(box, frame)
    return all_standings(box, frame)


def askings(box, frame, standing):
    """The ascending list of all askings at a standing of the box and the frame."""
    check_frame(box, frame)
    check_standing(box, frame, standing)
    return Wanted(box, frame).askings_at(standing)


def answers(box, frame, moves, standing, asking):
    """The ascending list of all answers to an asking, with so many moves."""
    check_frame(box, frame)
    check_moves(moves)
    check_standing(box, frame, standing)
    if not is_asking_at(box, frame, standing, asking):
        raise BadAsking("asking is an asking at the standing")
    return sorted(answers_to(box, moves, standing, asking, None))
