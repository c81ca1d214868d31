"""Turned programs: they give alike, purse and all."""

from pursewright.laid import body_of
from pursewright.turns import laid_moved, laid_named, laid_written_out


def written_out(program, f, n):
    """The program with piece n of function f, a call, written out; NoTurn where it is none."""
    return with_body(program, f, body_of(laid_written_out(program, f, n)))


def moved(program, f, n):
    """The program with piece n of function f, a make or a name, put behind the next piece, or NoTurn."""
    return with_body(program, f, body_of(laid_moved(program, f, n)))


def named(program, f, n, x):
    """The program with x called otherwise at piece n of function f and beneath it, or NoTurn."""
    return with_body(program, f, body_of(laid_named(program, f, n, x)))


def with_body(program, f, body):
    """The program with another body of function f."""
    functions = program[1]
    return (program[0], functions[:f] + (functions[f][:3] + (body,),) + functions[f + 1:])
