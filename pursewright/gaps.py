"""Gaps between what a paper asks and what runs need."""

from pursewright.inputs import inputs
from pursewright.needs import need
from pursewright.papers import asked, prices_of


def gap(program, paper, f, args, most):
    """What the paper asks for args of function f less what a run of so many steps needs, in parts."""
    return gap_by(program, paper[0], prices_of(program, paper), f, args, most)


def gaps(program, paper, f, size, most):
    """A list, by sizes from 0 to this one: None, or (gap, args), the least gap and the first args that have it."""
    prices = prices_of(program, paper)
    some = tuple([kind for name, kind in program[1][f][1]])
    told = []
    for number in range(size + 1):
        found = [(gap_by(program, paper[0], prices, f, args, most), args)
                 for args in inputs(program[0], some, number)]
        told.append(min(found, key=lambda pair: pair[0], default=None))
    return told


def gap_by(program, parts, prices, f, args, most):
    return asked(program, prices, f, args) - parts * need(program, f, args, most)[0]
