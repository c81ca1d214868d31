"""Rows settled by exact sums: promise 21."""

import math
import random
import unittest
from unittest import mock

from pursewright.corners import Corner
from pursewright.sums import settled
from tests.helper import LIST_PROGRAM, rows_in_full, sound_programs

GREAT = 10**9


def dot(one, other):
    return sum(a * b for a, b in zip(one, other))


def by_chance(source, many, rows, great, noughts):
    """Weights, leasts and goal to the great one, so many of ten of them 0."""

    def number(low):
        return 0 if source.randrange(10) < noughts else source.randint(low, great)

    told = [(tuple(number(-great) for _ in range(many)), number(-great)) for _ in range(rows)]
    return told, tuple(number(0) for _ in range(many))


def kept_by_chance(source, many, rows, great, noughts):
    """The same, but there are unknowns that keep all rows, many of them with nothing over."""
    told, goal = by_chance(source, many, rows, great, noughts)
    point = [source.randint(0, 5) for _ in range(many)]
    return [(weights, dot(weights, point) - source.choice((0, 0, 1, great))) for weights, least in told], goal


class SettledTest(unittest.TestCase):
    def settle(self, rows, goal):
        """What is told, looked at by sums alone."""
        kept = list(rows)
        told = settled(rows, goal)
        self.assertEqual(rows, kept)
        self.assertIs(type(told), tuple)
        if told[0] == "least":
            self.look_at_least(rows, goal, told)
        else:
            self.assertEqual((told[0], len(told)), ("none", 2))
            self.look_at_none(rows, goal, told[1])
        return told

    def look_at_numbers(self, numbers, many):
        self.assertIs(type(numbers), tuple)
        self.assertEqual({type(number) for number in numbers} - {int}, set())
        self.assertEqual(len(numbers), many)
        self.assertGreaterEqual(min(numbers, default=0), 0)

    def look_at_least(self, rows, goal, told):
        word, (top, bottom), (parts, numbers), (share_bottom, shares) = told
        self.assertEqual({type(number) for number in (top, bottom, parts, share_bottom)}, {int})
        self.assertEqual([type(pair) for pair in told[1:]], [tuple] * 3)
        self.assertGreaterEqual(min(bottom, parts, share_bottom), 1)
        self.assertEqual(math.gcd(top, bottom), 1)
        self.look_at_numbers(numbers, len(goal))
        self.look_at_numbers(shares, len(rows))
        for weights, least in rows:
            self.assertGreaterEqual(dot(weights, numbers), parts * least)
        self.assertEqual(dot(goal, numbers) * bottom, top * parts)
        for place, number in enumerate(goal):
            self.assertLessEqual(dot(shares, [weights[place] for weights, least in rows]), share_bottom * number)
        self.assertEqual(dot(shares, [least for weights, least in rows]) * bottom, share_bottom * top)

    def look_at_none(self, rows, goal, shares):
        self.look_at_numbers(shares, len(rows))
        for place in range(len(goal)):
            self.assertLessEqual(dot(shares, [weights[place] for weights, least in rows]), 0)
        self.assertGreater(dot(shares, [least for weights, least in rows]), 0)

    def price(self, rows, goal):
        told = self.settle(rows, goal)
        return told[1] if told[0] == "least" else None

    def test_neither_rows_nor_unknowns(self):
        self.assertEqual(self.settle([], ()), ("least", (0, 1), (1, ()), (1, ())))

    def test_no_rows(self):
        self.assertEqual(self.price([], (1, 2)), (0, 1))
        self.assertEqual(self.price([], (0, 0)), (0, 1))
        self.assertEqual(self.price([], (GREAT,) * 60), (0, 1))

    def test_no_unknowns(self):
        self.assertEqual(self.price([((), 0), ((), -3)], ()), (0, 1))
        self.assertIsNone(self.price([((), 0), ((), 3), ((), -3)], ()))
        self.assertIsNone(self.price([((), GREAT)], ()))

    def test_one_row(self):
        self.assertEqual(self.price([((2,), 6)], (5,)), (15, 1))
        self.assertEqual(self.price([((2,), -6)], (5,)), (0, 1))
        self.assertEqual(self.price([((2,), 0)], (5,)), (0, 1))
        self.assertEqual(self.price([((-2,), -6)], (5,)), (0, 1))
        self.assertIsNone(self.price([((-2,), 6)], (5,)))
        self.assertIsNone(self.price([((-1, -1, 0), 1)], (5, 0, 1)))

    def test_fractions(self):
        self.assertEqual(self.price([((3,), 1)], (1,)), (1, 3))
        self.assertEqual(self.price([((6,), 4)], (1,)), (2, 3))
        self.assertEqual(self.price([((6,), 4)], (3,)), (2, 1))
        self.assertEqual(self.price([((3, 1), 2), ((1, 3), 3)], (1, 1)), (5, 4))
        self.assertEqual(self.price([((GREAT, 0), 1), ((0, GREAT - 1), 1)], (1, 1)), (2 * GREAT - 1, GREAT * (GREAT - 1)))

    def test_goals_of_noughts(self):
        self.assertEqual(self.price([((1, 1), 5), ((2, -1), 3)], (0, 0)), (0, 1))
        self.assertEqual(self.price([((1, 1), 5), ((1, -1), 3)], (0, 1)), (0, 1))
        self.assertEqual(self.price([((1, 1), 5), ((-1, 0), -3)], (0, 1)), (2, 1))
        self.assertIsNone(self.price([((1, 1), 5), ((-1, -1), -4)], (0, 0)))

    def test_rows_of_noughts(self):
        self.assertEqual(self.price([((0, 0), 0)], (1, 1)), (0, 1))
        self.assertEqual(self.price([((0, 0), -1), ((1, 0), 2)], (1, 1)), (2, 1))
        self.assertIsNone(self.price([((0, 0), 1)], (1, 1)))
        self.assertIsNone(self.price([((1, 0), 2), ((0, 0), 1), ((0, 1), 2)], (1, 1)))
        self.assertIsNone(self.price([((1, 0), 2), ((0, 0), 1)], (0, 0)))

    def test_rows_that_can_not_be_kept_together(self):
        self.assertIsNone(self.price([((1,), 6), ((-1,), -5)], (1,)))
        self.assertEqual(self.price([((1,), 6), ((-1,), -6)], (1,)), (6, 1))
        self.assertIsNone(self.price([((1, -1, 0), 1), ((0, 1, -1), 1), ((-1, 0, 1), 1)], (1, 1, 1)))
        self.assertIsNone(self.price([((1, -1, 0), 1), ((0, 1, -1), 1), ((-1, 0, 1), -1)], (1, 1, 1)))
        self.assertEqual(self.price([((1, -1, 0), 1), ((0, 1, -1), 1), ((-1, 0, 1), -2)], (1, 1, 1)), (3, 1))

    def test_shares_may_be_the_one_way_there_is(self):
        self.assertEqual(self.settle([((1, 2), 3), ((2, 1), 3)], (1, 1)), ("least", (2, 1), (1, (1, 1)), (3, (1, 1))))
        self.assertEqual(self.settle([((1,), 2), ((-1,), -1), ((1,), 1)], (3,)), ("none", (1, 1, 0)))

    def test_several_rows_that_meet_at_one_point(self):
        rows = [((1, 1), 2), ((1, 2), 3), ((2, 1), 3), ((3, 1), 4), ((1, 3), 4), ((5, 4), 9)]
        self.assertEqual(self.price(rows, (1, 1)), (2, 1))
        self.assertEqual(self.price(rows, (7, 5)), (12, 1))
        self.assertEqual(self.price(rows, (3, 1)), (4, 1))
        self.assertEqual(self.price(rows, (4, 1)), (4, 1))

    def test_rows_twice_over_and_multiples(self):
        rows = [((1, 1), 2), ((1, 1), 2), ((3, 3), 6), ((1, 3), 4), ((2, 6), 8), ((GREAT, GREAT), 2 * GREAT)]
        self.assertEqual(self.price(rows, (1, 1)), (2, 1))
        self.assertEqual(self.price(rows * 20, (2, 3)), (5, 1))
        self.assertEqual(self.price(rows * 20 + [((-1, -1), -2)] * 3, (2, 3)), (5, 1))
        self.assertIsNone(self.price(rows * 20 + [((-3, -3), -5)] * 3, (2, 3)))

    def test_great_numbers(self):
        for sign in (1, -1):
            self.assertEqual(self.price([((GREAT, sign * GREAT), GREAT)], (GREAT, GREAT)), (GREAT, 1))
        self.assertEqual(self.price([((1, -GREAT), 0), ((0, 1), GREAT)], (GREAT, 0)), (GREAT**3, 1))
        self.assertIsNone(self.price([((-GREAT, -GREAT), GREAT)], (GREAT, GREAT)))
        self.assertEqual(self.price([((GREAT, -GREAT), -GREAT)], (GREAT, GREAT)), (0, 1))

    def test_a_long_chain_of_great_weights(self):
        many = 12
        rows = [((1,) + (0,) * (many - 1), 1)]
        for place in range(many - 1):
            weights = [0] * many
            weights[place], weights[place + 1] = -1, GREAT
            rows.append((tuple(weights), 0))
        goal = (0,) * (many - 1) + (1,)
        # The answer is far below what rough numbers can tell from 0.
        self.assertEqual(self.price(rows, goal), (1, GREAT ** (many - 1)))
        self.assertIsNone(self.price(rows + [(tuple(-one for one in goal), 0)], goal))
        up = [(tuple(-weight for weight in weights[::-1]) if number else weights[::-1], least)
              for number, (weights, least) in enumerate(rows)]
        self.settle(up, goal)

    def test_chains_that_grow(self):
        many = 40
        rows = [((1,) + (0,) * (many - 1), 1)]
        for place in range(many - 1):
            weights = [0] * many
            weights[place], weights[place + 1] = -GREAT, 1
            rows.append((tuple(weights), 0))
        self.assertEqual(self.price(rows, (0,) * (many - 1) + (1,)), (GREAT ** (many - 1), 1))

    def test_small_ones_by_chance(self):
        source = random.Random(25)
        seen = {}
        for number in range(2500):
            great = source.choice((1, 2, 5, GREAT))
            make = source.choice((by_chance, kept_by_chance))
            told = self.settle(*make(source, source.randint(0, 5), source.randint(0, 8), great, source.randint(0, 8)))
            seen[told[0]] = seen.get(told[0], 0) + 1
        self.assertGreater(min(seen["least"], seen["none"]), 500)

    def test_great_ones_by_chance(self):
        source = random.Random(26)
        for many, rows, great, noughts in ((60, 160, 9, 0), (60, 160, GREAT, 8), (60, 160, 1, 9), (60, 60, GREAT, 5),
                                           (1, 160, GREAT, 0), (60, 1, GREAT, 0), (30, 160, GREAT, 0)):
            told = self.settle(*kept_by_chance(source, many, rows, great, noughts))
            self.assertEqual(told[0], "least")
            self.settle(*by_chance(source, many, rows, great, noughts))

    def test_all_of_them_great(self):
        told = self.settle(*kept_by_chance(random.Random(27), 60, 160, GREAT, 0))
        self.assertEqual(told[0], "least")

    def test_weights_of_all_sizes(self):
        source = random.Random(28)
        for number in range(6):
            rows = []
            point = [source.choice((0, 0, 1, 7)) for _ in range(40)]
            for row in range(60):
                weights = [0] * 40
                for place in source.sample(range(40), source.randint(1, 8)):
                    weights[place] = source.choice((1, -1)) * 10 ** source.randint(0, 9)
                rows.append((tuple(weights), dot(weights, point) - source.choice((0, 0, 10 ** source.randint(0, 9)))))
            self.assertEqual(self.settle(rows, tuple(source.randint(0, 2) for _ in range(40)))[0], "least")

    def test_of_programs(self):
        source = random.Random(29)
        for program, f, args in sound_programs(source, 150, 4):
            rows = rows_in_full(program)
            goal = tuple(source.choice((0, 0, 1, 1000)) for _ in (rows[0][0] if rows else ()))
            self.settle(rows, goal)

    def test_of_a_list_program(self):
        rows = rows_in_full(LIST_PROGRAM)
        goal = [0] * len(rows[0][0])
        goal[3] = 1
        self.assertEqual(self.price(rows, tuple(goal)), (2, 1))

    def test_asked_again(self):
        source = random.Random(30)
        for number in range(50):
            rows, goal = by_chance(source, 5, 6, 9, 4)
            first = settled(rows, goal)
            rows.append(((0,) * 5, 7))
            self.assertEqual(settled(rows, goal)[0], "none")
            rows.pop()
            self.assertEqual(settled(rows, goal), first)


class RoughTest(SettledTest):
    """What is told is right wherever rough numbers lead: the same tests with choices that are of no worth."""

    def settle(self, rows, goal):
        source = random.Random(len(rows))
        every = list(range(len(rows) + len(goal)))
        chosen = source.sample(every, len(goal))
        with mock.patch("pursewright.sums.roughly_chosen", return_value=chosen):
            return SettledTest.settle(self, rows, goal)

    # These are large, and all steps are done with exact numbers here.
    test_great_ones_by_chance = None
    test_all_of_them_great = None


class StepsTest(unittest.TestCase):
    """How many corners are passed with exact numbers."""

    def exact_steps(self, rows, goal):
        exchange = Corner.exchange
        steps = []

        def counted(corner, entering, column, leaving):
            if not corner.rough:
                steps.append(entering)
            self.assertLess(len(steps), 500)
            exchange(corner, entering, column, leaving)

        with mock.patch.object(Corner, "exchange", counted):
            told = settled(rows, goal)
        return told[0], len(steps)

    def test_rough_numbers_lead_to_the_last_corner(self):
        source = random.Random(31)
        for make, word in ((kept_by_chance, "least"), (by_chance, "none")):
            for many, rows, great in ((30, 80, 9), (20, 60, GREAT), (60, 160, 2)):
                told, steps = self.exact_steps(*make(source, many, rows, great, 3))
                self.assertEqual(told, word)
                # Each unknown's place is changed once, and then it is looked at what came out.
                self.assertLessEqual(steps, many)

    def test_no_corner_comes_again_where_several_shares_are_used_up_at_once(self):
        # Were just the first one of them taken, these would go round for ever.
        for word, rows, goal in (
            ("none", [((-2, -2, -2, -1, 0), 0), ((1, 1, 2, 0, -1), 0), ((-2, 1, 0, 1, 2), 1), ((2, -1, -1, -2, 1), 0),
                      ((0, -2, 0, 0, -2), -1), ((-1, -1, -2, -2, -2), -2)], (0, 0, 0, 0, 0)),
            ("none", [((-18, -8, 3, 27, -23), 1), ((-13, -9, 19, 18, -14), 0), ((5, -5, -23, -15, 16), 1),
                      ((-4, -27, 19, -19, 23), 0), ((13, -4, 9, 12, 7), 1), ((9, 27, -3, -18, -11), -9)], (0,) * 5),
            ("none", [((-8, -27, 18, 17, 11), 0), ((-17, -19, -29, -24, -5), 0), ((14, -22, -3, 18, 12), 0),
                      ((8, 0, -20, 16, 8), 12)], (0, 0, 1, 0, 0)),
            ("least", [((10, -14, 24, 21, -23), 0), ((3, -10, 18, 16, 17), 21), ((-4, -20, -18, 0, 21), 1),
                       ((1, -20, 29, 21, -1), 1)], (0, 0, 0, 0, 0)),
        ):
            first = [len(rows) + place for place in range(len(goal))]
            with mock.patch("pursewright.sums.roughly_chosen", return_value=first):
                self.assertEqual(self.exact_steps(rows, goal)[0], word)
            self.assertLessEqual(self.exact_steps(rows, goal)[1], len(goal))


if __name__ == "__main__":
    unittest.main()
