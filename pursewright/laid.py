"""Bodies laid out: lists of their pieces in the text's order, each with what its weights come from.

A piece laid out stands for its own words alone: the bodies that it holds count for nothing, the pieces behind it are
taken in their place. What its weights come from is told as a tuple of (family, times), families as in stands.
"""

from pursewright.places import pieces


def laid_out(program, f):
    """The body of function f laid out, each piece's weights its own ones."""
    return [(piece, ((("piece", f, n), 1),)) for n, piece in enumerate(pieces(program[1][f][3]))]


def many_beneath(piece):
    """How many bodies lie right beneath the piece."""
    if piece[0] == "give":
        return 0
    return len(piece[2]) if piece[0] == "case" else 1


def end_of(laid, n):
    """The number behind those of piece n and all pieces beneath it."""
    begun = 1
    number = n
    while begun > 0:
        begun += many_beneath(laid[number][0]) - 1
        number += 1
    return number


def begins_beneath(laid, n):
    """A list of the numbers of the pieces right beneath piece n."""
    told = []
    number = n + 1
    while len(told) < many_beneath(laid[n][0]):
        told.append(number)
        number = end_of(laid, number)
    return told


def body_of(laid):
    """The body that is laid out so."""
    # From the last piece on: so the bodies beneath a piece are there ahead of it, the first one last.
    built = []
    for piece, source in reversed(laid):
        bodies = [built.pop() for number in range(many_beneath(piece))]
        built.append(with_bodies(piece, bodies))
    return built[0]


def with_bodies(piece, bodies):
    """The piece with these bodies right beneath it."""
    if piece[0] == "give":
        return piece
    if piece[0] == "case":
        arms = [(arm[0], arm[1], body) for arm, body in zip(piece[2], bodies)]
        return ("case", piece[1], tuple(arms))
    return piece[:-1] + (bodies[0],)
