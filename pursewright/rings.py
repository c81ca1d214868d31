"""Rings of calls: what hinders a program from having any paper."""

from pursewright.functions import number_of
from pursewright.places import pieces, way
from pursewright.rows import rows


def standing_calls(program, shares):
    """A dict of the calls on the ways to all pieces whose rows have shares above 0.

    Keys are (function, piece), in order, values the numbers of the functions called; shares behind those of the
    program's rows count for nothing.
    """
    found = {}
    for row, share in zip(rows(program), shares):
        if share > 0:
            f = row[0][1]
            found.update([((f, n), True) for n in way(program[1][f][3], row[0][2])])
    told = {}
    for f, n in sorted(found):
        piece = pieces(program[1][f][3])[n]
        if piece[0] == "call":
            told[(f, n)] = number_of(program[1], piece[2])
    return told


def ring_of(calls):
    """A list of keys of calls, each calling the function of the next one, the last one that of the first."""
    onward = going_on(calls)
    if not onward:
        return []
    passed = []
    here = sorted(onward)[0]
    # What was passed ahead of the first call that comes again isn't of the ring.
    while onward[here] not in passed:
        passed.append(onward[here])
        here = calls[onward[here]]
    return passed[passed.index(onward[here]):]


def going_on(calls):
    """A dict from functions to a call of theirs, each going on to a function that is a key too."""
    left = list(calls)
    while True:
        onward = dict([(pair[0], pair) for pair in left])
        kept = [pair for pair in left if calls[pair] in onward]
        if len(kept) == len(left):
            return onward
        left = kept
