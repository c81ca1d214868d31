"""Papers for turned programs, with the same prices."""

from pursewright.laid import body_of
from pursewright.papers import prices_of
from pursewright.rows import unknowns
from pursewright.turned import with_body
from pursewright.turns import laid_moved, laid_named, laid_written_out


def written_paper(program, f, n, paper):
    """The paper for what written_out tells, or NoTurn."""
    return paper_for(program, f, laid_written_out(program, f, n), paper)


def moved_paper(program, f, n, paper):
    """The paper for what moved tells, or NoTurn."""
    return paper_for(program, f, laid_moved(program, f, n), paper)


def named_paper(program, f, n, x, paper):
    """The paper for what named tells, or NoTurn."""
    return paper_for(program, f, laid_named(program, f, n, x), paper)


def paper_for(program, f, laid, paper):
    """The paper where function f has the body that is laid out so."""
    prices = prices_of(program, paper)
    numbers = []
    for unknown in unknowns(with_body(program, f, body_of(laid))):
        if unknown[:2] == ("piece", f):
            source = laid[unknown[2]][1]
            numbers.append(sum([times * prices[family + unknown[3:]] for family, times in source]))
        else:
            numbers.append(prices[unknown])
    return (paper[0], tuple(numbers))
