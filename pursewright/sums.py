"""Settles rows over unknowns by exact sums.

Shares of the rows are looked for, from corner to corner. Where the unknowns that belong to a corner keep all rows,
shares and unknowns show one another to be best; else a row that isn't kept gets a greater share, and where nothing
stops it from growing, it shows that no unknowns keep all rows.
"""

from pursewright.corners import Corner


def settled(rows, goal):
    """("least", price, paper, shares), or ("none", shares) where nothing keeps all rows."""
    corner = begun_well(rows, goal)
    change = next_change(corner)
    while change[2] is not None:
        corner.exchange(change[0], change[1], change[2])
        change = next_change(corner)
    if change[0] is None:
        return told_least(corner)
    return told_none(corner, change[0], change[1])


def next_change(corner):
    """(entering, column, leaving): how a corner is left.

    Entering is None where all rows are kept, leaving None where there is no other corner to go to.
    """
    entering = corner.furthest_off()
    if entering is None:
        return (None, None, None)
    column = corner.column(entering)
    return (entering, column, corner.first_used_up(column))


def begun_well(rows, goal):
    """An exact corner to begin with, mostly the last one at once."""
    # Exact numbers grow long, so most corners are passed with rough ones. These may go astray: then their way is
    # not taken. In either case what is told rests on exact numbers alone.
    corner = Corner(rows, goal, False)
    if corner.choose(roughly_chosen(rows, goal)):
        return corner
    return Corner(rows, goal, False)


def roughly_chosen(rows, goal):
    """The shares that are chosen at the last corner that rough numbers come to."""
    corner = Corner(rows, goal, True)
    # Rough numbers might go round for ever; more steps than these are hardly ever needed.
    for step in range(10 * (len(rows) + len(goal))):
        change = next_change(corner)
        # A chosen row is just kept: where it seems to be off, the numbers have become too rough.
        if change[2] is None or change[0] in corner.chosen:
            break
        corner.exchange(change[0], change[1], change[2])
    return corner.chosen


def told_least(corner):
    price = over_least(corner.scale, corner.top[-1:])
    paper = over_least(corner.scale, corner.top[:-1])
    shares = over_least(corner.scale, corner.spread([line[-1] for line in corner.lines]))
    return ("least", (price[1][0], price[0]), paper, shares)


def told_none(corner, entering, column):
    """The shares that are added where the entering row's may grow without end."""
    shares = corner.spread([-taken for taken in column])
    if entering < len(shares):
        shares[entering] = corner.scale
    return ("none", over_least(0, shares)[1])


def over_least(bottom, numbers):
    """The bottom and a tuple of the numbers, all made less by what measures them all."""
    measure = common_measure([bottom] + numbers)
    return (bottom // measure, tuple([number // measure for number in numbers]))


def common_measure(numbers):
    """The greatest number that measures all of these, some of them above 0, none below."""
    measure = 0
    for number in numbers:
        measure = measure_of_both(measure, number)
    return measure


def measure_of_both(one, other):
    while other != 0:
        rest = one % other
        one = other
        other = rest
    return one
