"""The least papers of a program."""

from pursewright.rings import ring_of, standing_calls
from pursewright.rows import rows, unknowns
from pursewright.sums import settled


def all_rows(program, f, wishes):
    """A list of the program's rows, and behind them one for each wish of function f; wishes None: all 0."""
    told = rows(program)
    for j, place in enumerate(wish_places(program, f)):
        told.append((("wish", f, j), {place: 1}, 0 if wishes is None else wishes[j]))
    return told


def least(program, f, goal, wishes=None):
    """("price", price, paper, shares) of the least paper for function f, or ("none", shares, ring)."""
    asked = all_rows(program, f, wishes)
    many = len(unknowns(program))
    full = [(weights_in_full(row[1], many), row[2]) for row in asked]
    told = settled(full, weights_in_full(dict(zip(goal_places(program, f), goal)), many))
    if told[0] == "least":
        return ("price",) + told[1:]
    shares = told[1]
    return ("none", shares, [] if hinders_wish(asked, shares) else ring_of(standing_calls(program, shares)))


def hinders_wish(asked, shares):
    """Whether the row of a wish above 0 has a share above 0."""
    return any([row[0][0] == "wish" and row[2] > 0 and share > 0 for row, share in zip(asked, shares)])


def goal_places(program, f):
    """The places of the unknowns that tell what function f asks for, params' weights and first."""
    return places_of(program, f, ("param", "first"))


def wish_places(program, f):
    """The places of the unknowns that tell what function f gives back, its result's weights and last."""
    return places_of(program, f, ("result", "last"))


def places_of(program, f, words):
    return [place for place, unknown in enumerate(unknowns(program)) if unknown[0] in words and unknown[1] == f]


def weights_in_full(weights, many):
    """A tuple with a number for each unknown, from a dict of those that aren't 0."""
    return tuple([weights.get(place, 0) for place in range(many)])
