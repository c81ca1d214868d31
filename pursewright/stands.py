"""What stands along the way to a piece: coins that are free, and what the names hold.

Both are told by unknowns, each with how often it counts. A family is an unknown but for its maker: ("param", f, k),
("result", f) or ("piece", f, n).
"""

from pursewright.functions import number_of
from pursewright.places import bound_by, spots


class Stand:
    """What stands at a place in function f, in terms of unknowns.

    Free is a tuple of (unknown, times), spent the pays less the gets so far, kinds a dict of all names bound so far,
    in order, to their kinds, and holdings one to tuples of (family, times).
    """

    def __init__(self, free, spent, kinds, holdings):
        self.free = free
        self.spent = spent
        self.kinds = kinds
        self.holdings = holdings


def stands(program, f):
    """For each piece of function f, in order, what stands where it is done next."""
    told = []
    found = spots(program[1][f][3])
    for spot in found:
        if spot.above is None:
            told.append(stand_at_begin(program, f))
        else:
            piece = found[spot.above].piece
            reached = stand_with(program, f, spot.above, piece, told[spot.above])
            told.append(stand_behind(program, (f, spot.above), piece, spot.arm, reached))
    return told


def stand_at_begin(program, f):
    params = program[1][f][1]
    holdings = [(param[0], ((("param", f, k), 1),)) for k, param in enumerate(params)]
    return Stand(((("first", f), 1),), 0, dict(params), dict(holdings))


def stand_with(program, f, n, piece, stand):
    """What stands when piece n of function f is done, of a call when its frame is begun: what it takes is gone."""
    holdings = dict(stand.holdings)
    for name, family in uses(program, f, n, piece):
        holdings[name] = holdings[name] + ((family, -1),)
    free = stand.free + taken_free(program, f, n, piece)
    return Stand(free, stand.spent + spent_by(piece), stand.kinds, holdings)


def stand_behind(program, place, piece, arm, stand):
    """What stands behind a piece that is done (of a case in this arm): what it brings is there."""
    f = place[0]
    n = place[1]
    free = stand.free
    family = ("piece", f, n)
    if piece[0] == "call":
        g = number_of(program[1], piece[2])
        free = free + ((("last", g), 1),)
        family = ("result", g)
    elif piece[0] == "case":
        free = free + ((family + (arm[0],), 1),)
    kinds = dict(stand.kinds)
    holdings = dict(stand.holdings)
    for name, kind in bound_by(program, piece, arm, kinds):
        kinds[name] = kind
        holdings[name] = ((family, 1),)
    return Stand(free, stand.spent, kinds, holdings)


def uses(program, f, n, piece):
    """A list of (name, family): each use of a name by piece n, with what takes it."""
    word = piece[0]
    if word == "make":
        return [(name, ("piece", f, n)) for name in piece[3]]
    if word == "call":
        g = number_of(program[1], piece[2])
        return [(name, ("param", g, k)) for k, name in enumerate(piece[3])]
    if word == "name":
        return [(piece[2], ("piece", f, n))]
    if word == "case":
        return [(piece[1], ("piece", f, n))]
    if word == "give":
        return [(piece[1], ("result", f))]
    return []


def taken_free(program, f, n, piece):
    """What piece n takes of what stands free, as a tuple of (unknown, times)."""
    if piece[0] == "make":
        return ((("piece", f, n, piece[2]), -1),)
    if piece[0] == "call":
        return ((("first", number_of(program[1], piece[2])), -1),)
    if piece[0] == "give":
        return ((("last", f), -1),)
    return ()


def spent_by(piece):
    if piece[0] == "pay":
        return piece[1]
    if piece[0] == "get":
        return -piece[1]
    return 0
