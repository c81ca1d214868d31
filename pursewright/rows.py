"""The unknowns of a program, and the rows that papers keep."""

from pursewright.kinds import kind_of_maker, within
from pursewright.places import kinds_ahead, pieces
from pursewright.stands import stand_with, stands

# Names, gets and cases take nothing of what stands free.
PAYING = ("make", "call", "pay", "give")


def unknowns(program):
    """A list of the program's unknowns, function by function."""
    told = []
    for f, function in enumerate(program[1]):
        for k, param in enumerate(function[1]):
            told.extend(unknowns_of(program, ("param", f, k), param[1]))
        told.append(("first", f))
        told.extend(unknowns_of(program, ("result", f), function[2]))
        told.append(("last", f))
        told.extend(piece_unknowns(program, f))
    return told


def unknowns_of(program, family, kind):
    """The family's unknowns, one for each maker within the kind."""
    return [family + (maker,) for maker in within(program[0], kind)]


def piece_unknowns(program, f):
    """The unknowns of the function's makes, names and cases."""
    told = []
    ahead = kinds_ahead(program, f)
    for n, piece in enumerate(pieces(program[1][f][3])):
        family = ("piece", f, n)
        if piece[0] == "make":
            told.extend(unknowns_of(program, family, kind_of_maker(program[0], piece[2])))
        elif piece[0] == "name":
            told.extend(unknowns_of(program, family, ahead[n][piece[2]]))
        elif piece[0] == "case":
            told.extend(unknowns_of(program, family, ahead[n][piece[1]]))
    return told


def rows(program):
    """A list of the program's rows: (why, weights, least)."""
    places = dict([(unknown, place) for place, unknown in enumerate(unknowns(program))])
    told = []
    for f, function in enumerate(program[1]):
        body = pieces(function[3])
        for n, stand in enumerate(stands(program, f)):
            if body[n][0] in PAYING:
                done = stand_with(program, n, body[n], stand)
                told.append((("purse", f, n), summed(places, done.free), done.spent))
                if body[n][0] == "give":
                    told.extend(use_rows(program, n, places, done))
    return told


def use_rows(program, n, places, stand):
    """The rows behind the purse row of a give, piece n; stand: what stands with it."""
    told = []
    for name, kind in stand.kinds.items():
        for maker in within(program[0], kind):
            pairs = [(family + (maker,), times) for family, times in stand.holdings[name]]
            told.append((("use", stand.f, n, name, maker), summed(places, pairs), 0))
    return told


def summed(places, pairs):
    """A dict from places of unknowns to how often they count in all, without those that come to 0."""
    weights = {}
    for unknown, times in pairs:
        weights[places[unknown]] = weights.get(places[unknown], 0) + times
    return dict([(place, weight) for place, weight in weights.items() if weight != 0])
