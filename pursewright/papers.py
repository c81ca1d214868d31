"""Papers of prices: whether one is let by, what it asks and tells, and what frames hold by it."""

from pursewright.errors import NoPaper
from pursewright.kinds import within
from pursewright.places import pieces
from pursewright.rows import rows, unknowns
from pursewright.stands import stand_at, stand_with
from pursewright.values import counts


def checked(program, paper):
    """True of a paper that is let by; else NoPaper of the first row that isn't kept."""
    parts = paper[0]
    numbers = paper[1]
    if parts < 1 or len(numbers) != len(unknowns(program)) or min(numbers, default=0) < 0:
        raise NoPaper(None)
    for number, row in enumerate(rows(program)):
        if sum([weight * numbers[place] for place, weight in row[1].items()]) < parts * row[2]:
            raise NoPaper(number)
    return True


def asks(program, paper, f, args):
    """What the paper asks for args of function f, in parts."""
    return asked(program, prices_of(program, paper), f, args)


def asked(program, prices, f, args):
    """What is asked for args of function f by these prices."""
    total = prices[("first", f)]
    for k, param in enumerate(program[1][f][1]):
        total += weight_of(weights_by(program, prices, param[1], [(("param", f, k), 1)]), args[k])
    return total


def tells(program, paper, f, value):
    """What the paper tells of an answer of function f, in parts."""
    prices = prices_of(program, paper)
    weights = weights_by(program, prices, program[1][f][2], [(("result", f), 1)])
    return prices[("last", f)] + weight_of(weights, value)


def prices_of(program, paper):
    """A dict from the program's unknowns to the paper's numbers."""
    return dict(zip(unknowns(program), paper[1]))


def weights_by(program, prices, kind, holding):
    """A dict from makers within the kind to their weights, but those of 0; holding: (family, times) each."""
    weights = {}
    for maker in within(program[0], kind):
        total = sum([times * prices[family + (maker,)] for family, times in holding])
        if total != 0:
            weights[maker] = total
    return weights


def weight_of(weights, value):
    """What the value weighs."""
    # Most names hold nothing any more when they have been used: their values needn't be gone through.
    if not weights:
        return 0
    often = counts(value)
    return sum([weights[maker] * often.get(maker, 0) for maker in weights])


def held(program, paper, frames):
    """A list of what each of a run's frames holds, in parts."""
    prices = prices_of(program, paper)
    known = {}
    told = []
    for number, frame in enumerate(frames):
        place = (frame[0], frame[1], number < len(frames) - 1)
        # Many frames may wait at one place.
        if place not in known:
            known[place] = holdings_at(program, paper[0], prices, place)
        free = known[place][0]
        weights = known[place][1]
        told.append(free + sum([weight_of(weights[name], value) for name, value in frame[2].items()]))
    return told


def holdings_at(program, parts, prices, place):
    """What stands free, and a dict from names to the weights by which they hold; place: (f, n, whether it waits)."""
    f = place[0]
    n = place[1]
    stand = stand_at(program, f, n)
    if place[2]:
        stand = stand_with(program, n, pieces(program[1][f][3])[n], stand)
    free = sum([times * prices[unknown] for unknown, times in stand.free]) - parts * stand.spent
    weights = {}
    for name, kind in stand.kinds.items():
        weights[name] = weights_by(program, prices, kind, stand.holdings[name])
    return (free, weights)
