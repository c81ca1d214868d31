"""The three turns, told as bodies laid out, so that papers can follow them."""

from pursewright.errors import NoTurn
from pursewright.functions import number_of
from pursewright.laid import begins_beneath, end_of, laid_out
from pursewright.names import bound_in, new_names, renamed
from pursewright.stands import stand_at, uses


def laid_with(program, f, n):
    """The body of function f laid out, or NoTurn where it has no piece n."""
    if not 0 <= f < len(program[1]):
        raise NoTurn()
    laid = laid_out(program, f)
    if not 0 <= n < len(laid):
        raise NoTurn()
    return laid


def naming(new, old, source):
    """A name piece laid out, its weights from this source."""
    return (("name", new, old, ()), source)


def laid_written_out(program, f, n):
    """Piece n, a call, written out: the body of the function called stands in its place."""
    laid = laid_with(program, f, n)
    call = laid[n][0]
    if call[0] != "call":
        raise NoTurn()
    g = number_of(program[1], call[2])
    called = called_anew(program, f, g)
    end = end_of(laid, n)
    told = laid[:n]
    for k, param in enumerate(program[1][g][1]):
        told.append(naming(called[param[0]], call[3][k], ((("param", g, k), 1),)))
    for piece, source in laid_out(program, g):
        if piece[0] == "give":
            told.append(naming(call[1], called[piece[1]], ((("result", g), 1),)))
            told.extend(laid[n + 1:end])
        else:
            told.append((renamed(piece, called), source))
    return told + laid[end:]


def called_anew(program, f, g):
    """A dict from all names that function g binds to names that function f doesn't."""
    names = list(bound_in(program[1][g]))
    return dict(zip(names, new_names(bound_in(program[1][f]), len(names))))


def laid_moved(program, f, n):
    """Piece n, a make or a name, put behind the piece right behind it."""
    laid = laid_with(program, f, n)
    piece = laid[n][0]
    if piece[0] != "make" and piece[0] != "name":
        raise NoTurn()
    behind = laid[n + 1][0]
    if behind[0] == "give" or piece[1] in [name for name, family in uses(program, f, n + 1, behind)]:
        raise NoTurn()
    begins = begins_beneath(laid, n + 1)
    told = laid[:n]
    for number in range(n + 1, len(laid)):
        if number in begins:
            told.append(laid[n])
        told.append(laid[number])
    return told


def laid_named(program, f, n, x):
    """A name piece ahead of piece n, by which x is called otherwise there and beneath."""
    laid = laid_with(program, f, n)
    holdings = stand_at(program, f, n).holdings
    if x not in holdings:
        raise NoTurn()
    new = new_names(bound_in(program[1][f]), 1)[0]
    end = end_of(laid, n)
    # The new name is bound with all that x still holds there: so x is left with nothing, and lacks nothing.
    told = laid[:n] + [naming(new, x, holdings[x])]
    told.extend([(renamed(piece, {x: new}), source) for piece, source in laid[n:end]])
    return told + laid[end:]
