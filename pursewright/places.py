"""The pieces of a body."""


class Spot:
    """A piece where it stands: above is the number of the one that it lies right in, arm the arm there.

    The first piece lies in none; a piece that doesn't begin an arm has None there.
    """

    def __init__(self, piece, above, arm):
        self.piece = piece
        self.above = above
        self.arm = arm


def spots(body):
    """All pieces of the body where they stand, in the text's order."""
    # Pieces wait on a list, the next one last: bodies may lie deeper than calls of a function should.
    told = []
    waiting = [Spot(body, None, None)]
    while waiting:
        spot = waiting.pop()
        waiting.extend(list(reversed(spots_beneath(spot.piece, len(told)))))
        told.append(spot)
    return told


def spots_beneath(piece, number):
    """The pieces right beneath the piece of this number."""
    if piece[0] == "give":
        return []
    if piece[0] == "case":
        return [Spot(arm[2], number, arm) for arm in piece[2]]
    return [Spot(piece[-1], number, None)]


def pieces(body):
    """A list of the pieces of the body, in the text's order."""
    return [spot.piece for spot in spots(body)]
