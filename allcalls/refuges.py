"""Refuges: from where on one can answer for ever, whatever is asked and broken; and perils, from where one cannot."""

from allcalls.breakgames import are_falls, check_break_game, is_answered_tuple
from allcalls.breaktables import BreakFalls, BreakTable


def safe_positions(box, frame, moves, number):
    """The ascending list of all safe positions."""
    check_break_game(box, frame, moves, number)
    table = BreakTable(box, frame, number)
    nodes = BreakFalls(table, moves).nodes
    return [position for k, position in enumerate(table.positions) if k not in nodes]


def perils(box, frame, moves, number):
    """The dict from all positions with a rank to pairs of it and of the first asking by which they have it."""
    check_break_game(box, frame, moves, number)
    table = BreakTable(box, frame, number)
    nodes = BreakFalls(table, moves).nodes
    return {table.positions[k]: nodes[k] for k in sorted(nodes)}


def is_refuge(box, frame, moves, number, thing):
    """Whether any value is a refuge."""
    check_break_game(box, frame, moves, number)
    return is_answered_tuple(box, frame, moves, number, thing)


def are_perils(box, frame, moves, number, thing):
    """Whether any value is a dict from positions to ranks and askings whose answers have lesser ranks."""
    check_break_game(box, frame, moves, number)
    return are_falls(box, frame, moves, number, thing)
