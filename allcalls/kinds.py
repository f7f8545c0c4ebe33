"""What kind of value something is: numbers, tuples and rows, told apart strictly."""


def is_number(thing):
    """Whether thing is an int that is not a bool."""
    return isinstance(thing, int) and not isinstance(thing, bool)


def is_within(thing, low, high):
    """Whether thing is a number from low to high."""
    return is_number(thing) and low <= thing <= high


def is_tuple_of(thing, many):
    """Whether thing is a tuple of so many items."""
    return isinstance(thing, tuple) and len(thing) == many


def is_row(thing):
    """Whether thing may stand where a list is expected."""
    return isinstance(thing, (list, tuple))


def rises(row):
    """Whether each item of the row is greater than the one before it."""
    for k in range(1, len(row)):
        if not row[k - 1] < row[k]:
            return False
    return True


def is_plain(thing):
    """Whether any value is a number, a string or a tuple of such, at every depth.

    So it may be looked up in a dict, and no bool in it is taken for a number.
    """
    if isinstance(thing, tuple):
        for item in thing:
            if not is_plain(item):
                return False
        return True
    return isinstance(thing, str) or is_number(thing)
