"""Loads packed into single whole numbers, which are summed and compared at once; and how bits are counted.

Each number of a load has eight bits, the first number the highest ones, so packed loads stand in the order of the
loads. The highest bit of each eight stays free; numbers are below 128.
"""

WIDTH = 8
LANE = 127
GUARD = 128


def bits_in(mark):
    """How many bits the whole number has."""
    text = f"{mark:b}"
    return text.count("1")


def packed(load):
    """The packed load."""
    found = 0
    for number in load:
        found = (found << WIDTH) | number
    return found


def unit(many, place):
    """The packed load of so many numbers that has just a 1 at the place."""
    return 1 << (WIDTH * (many - 1 - place))


def lanes(many, width, number):
    """The packed load that has the number so many times, so many bits for each."""
    # The quotient has just a 1 so many times.
    return ((1 << (width * many)) - 1) // ((1 << width) - 1) * number


def guards(many):
    """The free bits of a packed load of so many numbers."""
    return lanes(many, WIDTH, GUARD)


def first_over(tops, pack, guard):
    """The first of the packed loads that this one is below; None if there is none. guard is the guards of them."""
    for top in tops:
        # A guard is borrowed from exactly where the number of this one is greater.
        if ((top | guard) - pack) & guard == guard:
            return top
    return None


def by_totals(packs, width):
    """The dict from sums of numbers, which are below what so many bits hold, to the lists of packed loads with them."""
    # What is 1 more is 1 modulo this, so each number counts as it is.
    whole = (1 << width) - 1
    totals = [pack % whole for pack in packs]
    if totals.count(totals[0]) == len(totals):
        return {totals[0]: packs}
    groups = {}
    for pack, total in zip(packs, totals):
        groups.setdefault(total, []).append(pack)
    return groups


def greatest_packed(packs, many, width):
    """The ascending list of those of the different packed loads, of so many numbers, that are below no other one."""
    groups = by_totals(packs, width)
    if len(groups) == 1:
        return sorted(packs)
    guard = lanes(many, width, 1 << (width - 1))
    found = []
    # Different loads with one sum are never below each other, so each group meets only those with greater sums.
    for total in sorted(groups, reverse=True):
        rest = groups[total]
        if len(rest) < len(found):
            rest = [pack for pack in rest if first_over(found, pack, guard) is None]
        else:
            for top in found:
                high = top | guard
                rest = [pack for pack in rest if (high - pack) & guard != guard]
        found += rest
    return sorted(found)
