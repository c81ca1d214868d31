"""All values and all inputs of a size, in order."""

from pursewright.kinds import makers_of, reached_kinds
from pursewright.values import key


def values_of(kinds, kind, size):
    """A list of all values of the kind with just so many makers, in order."""
    return [values[0] for values in inputs(kinds, (kind,), size)]


def inputs(kinds, some, size):
    """A list of all tuples of values, one for each of some kinds, with so many makers in all, in order."""
    told = tuples_of(values_by_size(kinds, some, size), some, size)
    return sorted(told, key=lambda values: [key(kinds, value) for value in values])


def values_by_size(kinds, some, most):
    """A dict from each kind that can be come to from some kinds to lists of its values, one for each size."""
    known = {}
    for kind in some:
        for reached in reached_kinds(kinds, kind):
            known[reached] = [[]]
    for number in range(1, most + 1):
        for kind in list(known):
            known[kind].append(made_of(kinds, known, kind, number))
    return known


def made_of(kinds, known, kind, number):
    """All values of the kind with so many makers; those with fewer are known, of all kinds."""
    told = []
    for maker, fields in makers_of(kinds, kind):
        told.extend([(maker, parts) for parts in tuples_of(known, fields, number - 1)])
    return told


def tuples_of(known, some, total):
    """All tuples of known values, one for each of some kinds, with so many makers in all."""
    open_sums = sums_behind(known, some, total)
    begun = [((), total)]
    for place, kind in enumerate(some):
        grown = []
        for values, left in begun:
            for number in range(1, left + 1):
                # A tuple that can't be filled up isn't begun: there may be far more of those than of the others.
                if left - number in open_sums[place]:
                    grown.extend([(values + (value,), left - number) for value in known[kind][number]])
        begun = grown
    return [values for values, left in begun if left == 0]


def sums_behind(known, some, total):
    """For each of some kinds how many makers, as keys of a dict, tuples of the kinds behind it may have."""
    told = []
    sums = {0: True}
    for kind in reversed(some):
        told.append(sums)
        more = {}
        for number in range(1, total + 1):
            if known[kind][number]:
                more.update([(one + number, True) for one in sums])
        sums = more
    return list(reversed(told))
