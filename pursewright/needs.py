"""Runs of at most so many steps, and the coins that they need."""

from pursewright.places import pieces
from pursewright.walk import Walk


def ran(program, f, args, coins, most):
    """How a run of at most so many steps ends, or ("late",), with its purse and its steps then."""
    walk = Walk(program, f, args, coins)
    while walk.steps() < most and walk.turn():
        pass
    return (end_told(walk), walk.purse(), walk.steps())


def need(program, f, args, most):
    """The least coins with which none of the first so many steps is short, and how the run ends with them."""
    # Pieces are the same whatever the purse holds, as long as no pay is short: so the run is done with more
    # coins than so many pays can take, and of these it needs those that it ever was without.
    plenty = greatest_pay(program) * most
    walk = Walk(program, f, args, plenty)
    lowest = plenty
    while walk.steps() < most and walk.end() is None:
        walk.turn()
        lowest = min(lowest, walk.purse())
    return (plenty - lowest, end_told(walk))


def end_told(walk):
    return ("late",) if walk.end() is None else walk.end()


def greatest_pay(program):
    """The most coins that a pay of the program asks for."""
    greatest = 0
    for function in program[1]:
        coins = [piece[1] for piece in pieces(function[3]) if piece[0] == "pay"]
        greatest = max([greatest] + coins)
    return greatest
