"""What several tests need: wrong values, how they are refused, and the document's words written down plainly.

What is written down here goes over everything there is, one by one, and is not shared with the program.
"""

from itertools import combinations

from allcalls.boxes import Box, plain
from allcalls.exchange import Exchange

# None of these is right for any parameter that names an error.
WRONG = [
    None, True, False, "", "x", "want", -1, 10 ** 9, [], [0], [[0, 0]], {}, {0: 0}, {(): ()}, (None,), ((0, 0),),
    ("want", (0, 1), 7, 8), [()], ((True, 0), (1, 0)), (((),),), {"a": [()]},
]


def deep(levels):
    """A value that is so many levels deep."""
    thing = ()
    for k in range(levels - 1):
        thing = [(thing,), [thing, 1], {"a": thing}][k % 3] if k % 3 != 0 else (thing,)
    return thing


def any_values():
    """Values of all kinds, none of which is a paper of any kind."""
    one = Exchange(plain(2, 1), ((1,),), 0, 0)
    return [thing for thing in WRONG if thing not in (None, [], {}, {(): ()})] + [
        one, [one], (one, one), {"a": one}, {(): one},
        deep(80), Box(2, 1, ()), [Box(2, 1, ())], (plain(2, 1),), {"a": plain(2, 1)}, 7, "full", ("full", "full"),
        [None], (True, True), ((None, None), (None, None)), {1: {}}, {True: ()}, {None: None},
    ]


def refuse(case, function, good, errors, wrong=None):
    """Each wrong value is refused with its error, whatever stands behind it.

    good are right arguments; errors has an error class for each place, or None; wrong has further wrong values for
    places.
    """
    case.assertEqual(len(good), len(errors))
    function(*good)
    for place, error in enumerate(errors):
        if error is None:
            continue
        for thing in WRONG + (wrong or {}).get(place, []):
            behind = [old if kind is None else {} for old, kind in zip(good, errors)][place + 1:]
            for rest in (list(good[place + 1:]), behind):
                with case.assertRaises(error) as told:
                    function(*good[:place], thing, *rest)
                case.assertIs(type(told.exception), error)


def too_many(case, most, function, *args):
    """The call raises TooMany with this number."""
    from allcalls.errors import TooMany
    with case.assertRaises(TooMany) as told:
        function(*args)
    case.assertIs(type(told.exception), TooMany)
    case.assertEqual(told.exception.most, most)


def anew(case, function, *args):
    """What is returned may be changed and comes again as it was."""
    first = function(*args)
    text = repr(first)
    spoil(first)
    case.assertEqual(repr(function(*args)), text)


def spoil(thing):
    """Change all lists and dicts within a value."""
    if isinstance(thing, (list, tuple)):
        for item in thing:
            spoil(item)
    if isinstance(thing, list):
        thing.append("spoiled")
    if isinstance(thing, dict):
        for item in thing.values():
            spoil(item)
        thing["spoiled"] = "spoiled"


def ascending_dict(case, thing):
    """The keys of a dict that is returned are ascending."""
    case.assertEqual(list(thing), sorted(thing))


def untrue(thing):
    """All values that have True for a 1, or False for a 0, in one place of the value; keys of dicts, too."""
    if isinstance(thing, bool) or thing is None or isinstance(thing, str):
        return []
    if isinstance(thing, int):
        return [bool(thing)] if thing in (0, 1) else []
    found = []
    if isinstance(thing, (list, tuple)):
        for k, item in enumerate(thing):
            for other in untrue(item):
                rows = list(thing)
                rows[k] = other
                found.append(type(thing)(rows))
    if isinstance(thing, dict):
        for key in thing:
            for other in untrue(key):
                found.append({other if old is key else old: item for old, item in thing.items()})
            for other in untrue(thing[key]):
                found.append({old: other if old is key else item for old, item in thing.items()})
    return found


def listed(thing):
    """All values that have a list for one tuple within the value."""
    found = []
    if isinstance(thing, tuple):
        found.append(list(thing))
    if isinstance(thing, (list, tuple)):
        for k, item in enumerate(thing):
            for other in listed(item):
                rows = list(thing)
                rows[k] = other
                found.append(type(thing)(rows))
    if isinstance(thing, dict):
        for key in thing:
            for other in listed(thing[key]):
                found.append({old: other if old is key else item for old, item in thing.items()})
    return found


def pairs_of(sides):
    return list(combinations(range(sides), 2))


def under(one, other):
    return all(low <= high for low, high in zip(one, other))


def inside(frame, load):
    return any(under(load, top) for top in frame)


def count_load(sides, way):
    return tuple(sum((one[0], other[0]) == pair for one, other in way) for pair in pairs_of(sides))


def every_way(box):
    """All ways of a box, ascending: each row of its switches is looked at."""
    found = [()]
    for switch in box.switches:
        found += [way + (switch,) for way in found if not any(set(switch) & set(wire) for wire in way)]
    return sorted(found)


def every_standing(box, frame):
    return [way for way in every_way(box) if inside(frame, count_load(box.sides, way))]


def every_load(sides, most):
    """All loads with numbers up to most."""
    found = [()]
    for _ in pairs_of(sides):
        found = [load + (number,) for load in found for number in range(most + 1)]
    return found


def with_one(sides, load, pair):
    return tuple(number + (other == pair) for other, number in zip(pairs_of(sides), load))


def every_asking(box, frame, standing):
    load = count_load(box.sides, standing)
    wanted = [pair for pair in pairs_of(box.sides) if inside(frame, with_one(box.sides, load, pair))]
    return [("end", switch) for switch in standing] + [("want", pair) for pair in wanted]


def every_answer(box, moves, standing, asking, ways):
    """All answers among the standings, which are given."""
    if asking[0] == "end":
        return [tuple(switch for switch in standing if switch != asking[1])]
    load = with_one(box.sides, count_load(box.sides, standing), asking[1])
    return [way for way in ways
            if count_load(box.sides, way) == load and len(set(standing) - set(way)) <= moves]


def game_of(box, frame, moves):
    """The dict from all standings to dicts from their askings to all answers."""
    ways = every_standing(box, frame)
    return {way: {asking: every_answer(box, moves, way, asking, ways) for asking in every_asking(box, frame, way)}
            for way in ways}


def kept_of(game, barred):
    """The greatest keeping, by taking away what is stuck or leads out; None."""
    kept = {way for way in game if way not in barred}
    while True:
        out = {way for way in kept if any(not set(found) & kept for found in game[way].values())}
        if not out:
            break
        kept -= out
    return tuple(sorted(kept)) if () in kept else None


def greatest_of(game):
    """All places of a game from which one can answer for ever, by taking away those where one cannot."""
    kept = set(game)
    while True:
        out = {place for place in kept if any(not set(found) & kept for found in game[place].values())}
        if not out:
            return kept
        kept -= out


def is_kept(game, starts, thing):
    """Whether a tuple is ascending and has all of starts, and some answer to whatever may be asked there."""
    return (list(thing) == sorted(set(thing)) and set(thing) <= set(game) and set(starts) <= set(thing)
            and all(set(found) & set(thing) for place in thing for found in game[place].values()))


def is_doomed(game, starts, thing):
    """Whether a dict from places, one of starts among them, to pairs (rank, asked) is a doom."""
    return any(place in thing for place in starts) and all(
        place in game and asked in game[place]
        and all(other in thing and thing[other][0] < rank for other in game[place][asked])
        for place, (rank, asked) in thing.items())


def ranks_of(game, barred):
    """The dict from all lost standings to pairs of their rank and first asking, round by round."""
    nodes = {}
    for rank in range(len(game) + 1):
        new = {}
        for way in game:
            if way in barred or way in nodes:
                continue
            for asking, found in game[way].items():
                if all(other in barred or other in nodes for other in found):
                    new[way] = (rank, asking)
                    break
        if not new:
            break
        nodes.update(new)
    return {way: nodes[way] for way in sorted(nodes)}


def some_frame(rnd, sides, most, many):
    """Some frame of many loads at most, with numbers up to most."""
    while True:
        loads = {tuple(rnd.randint(0, most) for _ in pairs_of(sides)) for _ in range(rnd.randint(1, many))}
        tops = [load for load in loads if not any(load != other and under(load, other) for other in loads)]
        if any(sum(load) for load in tops):
            return tuple(sorted(tops))


def some_box(rnd, sides, tracks, many):
    """Some box with so many switches at most (one at least)."""
    pins = [(side, track) for side in range(sides) for track in range(tracks)]
    switches = [pair for pair in combinations(pins, 2) if pair[0][0] != pair[1][0]]
    chosen = rnd.sample(switches, min(rnd.randint(1, many), len(switches)))
    return Box(sides, tracks, tuple(sorted(chosen)))
