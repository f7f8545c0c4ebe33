"""Loads packed into single whole numbers, which are summed and compared at once; and how bits are counted.

Each number of a load has eight bits, the first number the highest ones, so packed loads stand in the order of the
loads. The highest bit of each eight stays free; numbers are below 128.
"""

WIDTH = 8
LANE = 127
GUARD = 128


def bits_in(mark):
    """How many bits the whole number has."""
    text = f"{mark:b}"
    return text.count("1")


def packed(load):
    """The packed load."""
    found = 0
    for number in load:
        found = (found << WIDTH) | number
    return found


def unpacked(pack, many):
    """The load of so many numbers that is packed."""
    return tuple([(pack >> (WIDTH * k)) & LANE for k in range(many - 1, -1, -1)])


def unit(many, place):
    """The packed load of so many numbers that has just a 1 at the place."""
    return 1 << (WIDTH * (many - 1 - place))


def guards(many):
    """The free bits of a packed load of so many numbers."""
    found = 0
    for _ in range(many):
        found = (found << WIDTH) | GUARD
    return found


def first_over(tops, pack, guard):
    """The first of the packed loads that this one is below; None if there is none. guard is the guards of them."""
    for top in tops:
        # A guard is borrowed from exactly where the number of this one is greater.
        if ((top | guard) - pack) & guard == guard:
            return top
    return None


def total_of(pack):
    """The sum of the numbers of a packed load, which is below 255."""
    # 256 is 1 modulo 255, so each eight bits count as they are.
    return pack % 255


def greatest_packed(packs, guard):
    """The ascending list of the packed loads that are below no other one; their sums are below 255."""
    groups = {}
    for pack in packs:
        groups.setdefault(total_of(pack), {})[pack] = True
    found = []
    # Different loads with one sum are never below each other, so each group meets only those with greater sums.
    for total in sorted(groups, reverse=True):
        found.extend([pack for pack in groups[total] if first_over(found, pack, guard) is None])
    return sorted(found)
