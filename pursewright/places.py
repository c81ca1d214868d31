"""The pieces of a body, the ways to them, and the names that are bound there."""

from pursewright.functions import number_of
from pursewright.kinds import kind_of_maker, makers_of


class Spot:
    """A piece where it stands: above is the number of the one that it lies right in, arm the arm there.

    The first piece lies in none; a piece that doesn't begin an arm has None there.
    """

    def __init__(self, piece, above, arm):
        self.piece = piece
        self.above = above
        self.arm = arm


def spots(body):
    """All pieces of the body where they stand, in the text's order."""
    # Pieces wait on a list, the next one last: bodies may lie deeper than calls of a function should.
    told = []
    waiting = [Spot(body, None, None)]
    while waiting:
        spot = waiting.pop()
        waiting.extend(list(reversed(spots_beneath(spot.piece, len(told)))))
        told.append(spot)
    return told


def spots_beneath(piece, number):
    """The pieces right beneath the piece of this number."""
    if piece[0] == "give":
        return []
    if piece[0] == "case":
        return [Spot(arm[2], number, arm) for arm in piece[2]]
    return [Spot(piece[-1], number, None)]


def pieces(body):
    """A list of the pieces of the body, in the text's order."""
    return [spot.piece for spot in spots(body)]


def way(body, n):
    """A list of the numbers of the way to piece n, n last."""
    found = spots(body)
    told = [n]
    while found[told[-1]].above is not None:
        told.append(found[told[-1]].above)
    return list(reversed(told))


def kinds_at(program, f, n):
    """A list of (name, kind): all names bound ahead of piece n of function f, params first, then in order."""
    return list(kinds_ahead(program, f)[n].items())


def kinds_ahead(program, f):
    """For each piece of function f a dict of all names bound ahead of it, in order, to their kinds."""
    told = []
    found = spots(program[1][f][3])
    for spot in found:
        if spot.above is None:
            told.append(dict(program[1][f][1]))
        else:
            kinds = dict(told[spot.above])
            kinds.update(bound_by(program, found[spot.above].piece, spot.arm, kinds))
            told.append(kinds)
    return told


def bound_by(program, piece, arm, kinds):
    """A list of (name, kind): what the piece binds for what lies beneath it (of a case in this arm).

    Kinds are those of the names bound ahead of it.
    """
    word = piece[0]
    if word == "make":
        return [(piece[1], kind_of_maker(program[0], piece[2]))]
    if word == "call":
        return [(piece[1], program[1][number_of(program[1], piece[2])][2])]
    if word == "name":
        return [(piece[1], kinds[piece[2]])]
    if word == "case":
        fields = dict(makers_of(program[0], kinds[piece[1]]))
        return list(zip(arm[1], fields[arm[0]]))
    return []
