"""What the files of the package share: checks of values, and running sums."""

MOST_TIMES = 200


def is_whole(thing):
    """Whether an object is an integer; True and False are none."""
    return isinstance(thing, int) and not isinstance(thing, bool)


def is_between(thing, least, most):
    """Whether an object is an integer from least to most."""
    return is_whole(thing) and least <= thing <= most


def is_whole_list(thing):
    """Whether an object is a list of 1 to 200 integers."""
    if not isinstance(thing, list) or not 1 <= len(thing) <= MOST_TIMES:
        return False
    return all([is_whole(entry) for entry in thing])


def is_at_most(row, other):
    """Whether no entry of a list is greater than the one at its place in the other list."""
    return all([one <= two for one, two in zip(row, other)])


def sums_from_zero(row):
    """The sums X_0 .. X_n of a list of n integers."""
    sums = [0]
    for entry in row:
        sums.append(sums[-1] + entry)
    return sums
