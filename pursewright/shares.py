"""Looks at shares of rows by sums alone: whether they show a price, or that there is none, and why."""

from pursewright.rings import standing_calls


def shows_price(rows, goal, price, shares):
    """Whether shares (bottom, numbers) of the rows show that no unknowns come to less than the price."""
    bottom = shares[0]
    numbers = shares[1]
    if price[1] < 1 or bottom < 1 or not are_shares(rows, numbers):
        return False
    if not come_to_at_most(rows, numbers, [bottom * number for number in goal]):
        return False
    return sum_of_leasts(rows, numbers) * price[1] == bottom * price[0]


def shows_none(rows, shares):
    """Whether shares, a tuple, show that no unknowns keep all rows."""
    if not rows or not are_shares(rows, shares):
        return False
    return come_to_at_most(rows, shares, [0] * len(rows[0][0])) and sum_of_leasts(rows, shares) > 0


def shows_ring(program, shares, ring):
    """Whether ring is one of calls that stand on the ways to rows of the program with shares above 0."""
    calls = standing_calls(program, shares)
    for number, pair in enumerate(ring):
        onward = ring[(number + 1) % len(ring)]
        # A function that isn't there is called by none: so None never is the number of the next one.
        if calls.get((pair[0], pair[1])) != onward[0]:
            return False
    return len(ring) > 0


def are_shares(rows, numbers):
    """Whether there is a number from 0 on for each row."""
    return len(numbers) == len(rows) and min(numbers, default=0) >= 0


def come_to_at_most(rows, numbers, most):
    """Whether the numbers times the rows' weights come to at most so many, for each unknown."""
    return all([sum_of_weights(rows, numbers, place) <= number for place, number in enumerate(most)])


def sum_of_weights(rows, numbers, place):
    return sum([number * row[0][place] for row, number in zip(rows, numbers)])


def sum_of_leasts(rows, numbers):
    return sum([number * row[1] for row, number in zip(rows, numbers)])
