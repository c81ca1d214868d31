"""What stands along the way to a piece: coins that are free, and what the names hold.

Both are told by unknowns, each with how often it counts. A family is an unknown but for its maker: ("param", f, k),
("result", f) or ("piece", f, n).
"""

from pursewright.functions import number_of
from pursewright.places import bound_by, spots, way


class Stand:
    """What stands at a place in function f.

    Free is a tuple of (unknown, times), spent the pays less the gets so far, kinds a dict of all names bound so far,
    in order, to their kinds, and holdings one of these names to tuples of (family, times).
    """

    def __init__(self, f, free, spent, kinds, holdings):
        self.f = f
        self.free = free
        self.spent = spent
        self.kinds = kinds
        self.holdings = holdings


def stands(program, f):
    """For each piece of function f, in order, what stands where it is done next."""
    told = []
    found = spots(program[1][f][3])
    for spot in found:
        if spot.above is None:
            told.append(stand_at_begin(program, f))
        else:
            piece = found[spot.above].piece
            met = stand_with(program, spot.above, piece, told[spot.above])
            told.append(stand_behind(program, spot.above, piece, spot.arm, met))
    return told


def stand_at(program, f, n):
    """What stands where piece n of function f is done next."""
    found = spots(program[1][f][3])
    numbers = way(program[1][f][3], n)
    stand = stand_at_begin(program, f)
    for above, beneath in zip(numbers, numbers[1:]):
        piece = found[above].piece
        stand = stand_behind(program, above, piece, found[beneath].arm, stand_with(program, above, piece, stand))
    return stand


def stand_at_begin(program, f):
    params = program[1][f][1]
    holdings = [(param[0], ((("param", f, k), 1),)) for k, param in enumerate(params)]
    return Stand(f, ((("first", f), 1),), 0, dict(params), dict(holdings))


def stand_with(program, n, piece, stand):
    """What stands with piece n being done, of a call with its frame begun: what it takes is gone."""
    holdings = dict(stand.holdings)
    for name, family in uses(program, stand.f, n, piece):
        holdings[name] = holdings[name] + ((family, -1),)
    free = stand.free + taken_free(program, stand.f, n, piece)
    return Stand(stand.f, free, stand.spent + spent_by(piece), stand.kinds, holdings)


def stand_behind(program, n, piece, arm, stand):
    """What stands behind piece n (of a case in this arm), once it stood so with it: what it brings is there."""
    family = ("piece", stand.f, n)
    free = stand.free
    if piece[0] == "call":
        g = number_of(program[1], piece[2])
        family = ("result", g)
        free = free + ((("last", g), 1),)
    elif piece[0] == "case":
        free = free + ((family + (arm[0],), 1),)
    kinds = dict(stand.kinds)
    holdings = dict(stand.holdings)
    for name, kind in bound_by(program, piece, arm, stand.kinds):
        kinds[name] = kind
        holdings[name] = ((family, 1),)
    return Stand(stand.f, free, stand.spent, kinds, holdings)


def uses(program, f, n, piece):
    """A list of (name, family): each use of a name by piece n, with what takes it."""
    word = piece[0]
    if word == "make":
        return [(name, ("piece", f, n)) for name in piece[3]]
    if word == "call":
        g = number_of(program[1], piece[2])
        return [(name, ("param", g, k)) for k, name in enumerate(piece[3])]
    if word == "name":
        return [(piece[2], ("piece", f, n))]
    if word == "case":
        return [(piece[1], ("piece", f, n))]
    if word == "give":
        return [(piece[1], ("result", f))]
    return []


def taken_free(program, f, n, piece):
    """What piece n takes of what stands free, as a tuple of (unknown, times)."""
    if piece[0] == "make":
        return ((("piece", f, n, piece[2]), -1),)
    if piece[0] == "call":
        return ((("first", number_of(program[1], piece[2])), -1),)
    if piece[0] == "give":
        return ((("last", f), -1),)
    return ()


def spent_by(piece):
    if piece[0] == "pay":
        return piece[1]
    if piece[0] == "get":
        return -piece[1]
    return 0
