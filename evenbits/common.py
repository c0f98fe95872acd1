"""What the files of the package share: checks of values, running sums, runs, and entries at a level."""

MOST_TIMES = 200


def is_whole(thing):
    """Whether an object is an integer; True and False are none."""
    return isinstance(thing, int) and not isinstance(thing, bool)


def is_between(thing, least, most):
    """Whether an object is an integer from least to most."""
    return is_whole(thing) and least <= thing <= most


def is_whole_list(thing):
    """Whether an object is a list of 1 to 200 integers."""
    if not isinstance(thing, list) or not 1 <= len(thing) <= MOST_TIMES:
        return False
    return all([is_whole(entry) for entry in thing])


def is_whole_tuple(thing, many):
    """Whether an object is a tuple of so many integers."""
    return isinstance(thing, tuple) and len(thing) == many and all([is_whole(part) for part in thing])


def is_at_most(row, other):
    """Whether no entry of a list is greater than the one at its place in the other list."""
    return all([one <= two for one, two in zip(row, other)])


def sums_from_zero(row):
    """The sums X_0 .. X_n of a list of n integers."""
    sums = [0]
    for entry in row:
        sums.append(sums[-1] + entry)
    return sums


def runs_of(items):
    """The longest runs of equal neighbours of a list, as tuples (first, last, item): items first + 1 to last."""
    runs, first = [], 0
    for last in range(1, len(items) + 1):
        if last == len(items) or items[last] != items[first]:
            runs.append((first, last, items[first]))
            first = last
    return runs


def entry_at(least, most, level):
    """The entry e_t(level) between the bounds of an entry: the level, or the bound that it is beyond."""
    return min(most, max(least, level))


def entries_at(plan, level):
    """The entries e_t(level) at the times 1 to n of a plan."""
    return [entry_at(least, most, level) for least, most in zip(plan.least, plan.most)]
