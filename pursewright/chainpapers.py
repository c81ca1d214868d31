"""Papers for programs with chained functions and functions over each thing of a list."""

from pursewright.errors import NoChain
from pursewright.kinds import within
from pursewright.papers import prices_of


def chained_paper(program, f, g, paper):
    """The paper for what chained tells, or NoChain where f gives less than g asks."""
    prices = prices_of(program, paper)
    for maker in within(program[0], program[1][f][2]):
        if prices[("result", f, maker)] < prices[("param", g, 0, maker)]:
            raise NoChain(maker)
    # What is still to be had where g is called, once f's own first was there.
    lacking = max(0, prices[("first", g)] - prices[("last", f)])
    left = lacking + prices[("last", f)] - prices[("first", g)] + prices[("last", g)]
    more = numbers_at(prices, ("param", f)) + (prices[("first", f)] + lacking,)
    return (paper[0], paper[1] + more + numbers_at(prices, ("result", g)) + (left,))


def over_paper(program, f, paper):
    """The paper for what over tells."""
    prices = prices_of(program, paper)
    # Behind the things' own makers stand those of the list, the one without fields first.
    taken = numbers_at(prices, ("param", f)) + (0, prices[("first", f)])
    given = numbers_at(prices, ("result", f)) + (0, prices[("last", f)])
    # The case has the list's weights, and both makes those of what is given.
    return (paper[0], paper[1] + taken + (0,) + given + (0,) + taken + given + given)


def numbers_at(prices, begin):
    """A tuple of the numbers of all unknowns that begin so, in order."""
    return tuple([number for unknown, number in prices.items() if unknown[:2] == begin])
