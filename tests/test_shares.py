"""Shares looked at by sums alone: promise 24."""

import random
import unittest

from pursewright.least import all_rows, least
from pursewright.reader import read
from pursewright.rows import rows, unknowns
from pursewright.shares import shows_none, shows_price, shows_ring
from pursewright.sums import settled
from tests.helper import (
    LIST_PROGRAM, goal_in_full, none_is_shown, price_is_shown, ring_is_shown, rows_in_full, small_programs,
)

ROWS = [((1, 2), 3), ((2, 1), 3)]
GOAL = (1, 1)
HINDERED = [((1,), 2), ((-1,), -1), ((1,), 1)]


def changed(numbers, place, by):
    return numbers[:place] + (numbers[place] + by,) + numbers[place + 1 :]


class ShowsPriceTest(unittest.TestCase):
    def test_what_settled_tells(self):
        word, price, paper, shares = settled(ROWS, GOAL)
        self.assertIs(shows_price(ROWS, GOAL, price, shares), True)
        self.assertEqual((price, shares), ((2, 1), (3, (1, 1))))

    def test_other_terms(self):
        for price in ((2, 1), (4, 2), (2000, 1000)):
            for bottom, numbers in ((3, (1, 1)), (30, (10, 10)), (9, (3, 3))):
                self.assertIs(shows_price(ROWS, GOAL, price, (bottom, numbers)), True)

    def test_another_price(self):
        for price in ((1, 1), (3, 1), (2, 2), (4, 1), (0, 1), (-2, 1), (19, 10), (21, 10)):
            self.assertIs(shows_price(ROWS, GOAL, price, (3, (1, 1))), False)

    def test_bottoms_below_one(self):
        for price in ((2, 0), (0, 0), (-2, -1), (2, -1)):
            self.assertIs(shows_price(ROWS, GOAL, price, (3, (1, 1))), False)
        for shares in ((0, (0, 0)), (0, (1, 1)), (-3, (1, 1)), (-3, (-1, -1)), (-1, (0, 0))):
            self.assertIs(shows_price(ROWS, GOAL, (2, 1), shares), False)
            self.assertIs(shows_price(ROWS, GOAL, (0, 1), shares), False)

    def test_one_share_more_or_less(self):
        for place in (0, 1):
            for by in (1, -1):
                self.assertIs(shows_price(ROWS, GOAL, (2, 1), (3, changed((1, 1), place, by))), False)
        # Less shares show less, and just that.
        self.assertIs(shows_price(ROWS, GOAL, (1, 1), (3, (1, 0))), True)
        self.assertIs(shows_price(ROWS, GOAL, (0, 1), (3, (0, 0))), True)

    def test_shares_below_nought(self):
        rows = [((1,), 2), ((1,), 1)]
        self.assertIs(shows_price(rows, (3,), (6, 1), (1, (3, 0))), True)
        self.assertIs(shows_price(rows, (3,), (7, 1), (1, (4, -1))), False)
        self.assertIs(shows_price(rows, (3,), (-2, 1), (1, (-1, 0))), False)

    def test_too_few_and_too_many(self):
        for numbers in ((), (1,), (1, 1, 0), (1, 1, 1), (0, 1, 1)):
            self.assertIs(shows_price(ROWS, GOAL, (2, 1), (3, numbers)), False)
        self.assertIs(shows_price([], GOAL, (0, 1), (1, (0,))), False)

    def test_another_goal_and_another_row(self):
        for goal in ((0, 1), (1, 0), (0, 0)):
            self.assertIs(shows_price(ROWS, goal, (2, 1), (3, (1, 1))), False)
        # A greater goal is not come to by these shares, but they show the price all the same.
        self.assertIs(shows_price(ROWS, (1, 2), (2, 1), (3, (1, 1))), True)
        for rows in ([((1, 2), 3), ((2, 1), 4)], [((1, 3), 3), ((2, 1), 3)], [((1, 2), 2), ((2, 1), 3)]):
            self.assertIs(shows_price(rows, GOAL, (2, 1), (3, (1, 1))), False)

    def test_no_rows_and_no_unknowns(self):
        self.assertIs(shows_price([], (), (0, 1), (1, ())), True)
        self.assertIs(shows_price([], (5, 6), (0, 7), (1, ())), True)
        self.assertIs(shows_price([], (5, 6), (1, 7), (1, ())), False)
        self.assertIs(shows_price([((), -3)], (), (0, 1), (4, (0,))), True)
        self.assertIs(shows_price([((), -3)], (), (-3, 1), (4, (4,))), True)

    def test_great_numbers(self):
        great = 10**40
        self.assertIs(shows_price(ROWS, GOAL, (2 * great, great), (3 * great, (great, great))), True)
        self.assertIs(shows_price(ROWS, GOAL, (2 * great + 1, great), (3 * great, (great, great))), False)

    def test_by_chance_told_anew(self):
        source = random.Random(36)
        seen = {True: 0, False: 0}
        for program, f, args in small_programs(source, 150):
            many = len([one for one in unknowns(program) if one[:2] in (("param", f), ("first", f))])
            goal = tuple(source.randint(0, 3) for _ in range(many))
            told = least(program, f, goal)
            if told[0] != "price":
                continue
            full, goal = rows_in_full(program, all_rows(program, f, None)), goal_in_full(program, f, goal)
            self.assertIs(shows_price(full, goal, told[1], told[3]), True)
            for number in range(6):
                place = source.randrange(len(full))
                shares = (told[3][0] + source.choice((0, 0, 1, -1)), changed(told[3][1], place, source.choice((0, 1, -1))))
                other = tuple(max(0, number + source.choice((0, 0, 0, 1, -1))) for number in goal)
                due = price_is_shown(full, other, told[1], shares)
                seen[due] += 1
                self.assertIs(shows_price(full, other, told[1], shares), due)
        self.assertGreater(min(seen.values()), 50)


class ShowsNoneTest(unittest.TestCase):
    def test_what_settled_tells(self):
        self.assertEqual(settled(HINDERED, (3,)), ("none", (1, 1, 0)))
        for shares in ((1, 1, 0), (7, 7, 0), (5, 6, 1), (10**30, 10**30, 0)):
            self.assertIs(shows_none(HINDERED, shares), True)

    def test_others(self):
        for shares in ((0, 0, 0), (1, 0, 0), (0, 1, 0), (2, 1, 0), (1, 1, 1), (0, 1, 1), (1, 3, 0)):
            self.assertIs(shows_none(HINDERED, shares), False)
        self.assertIs(shows_none([((1,), 2), ((-1,), -2)], (1, 1)), False)

    def test_below_nought_too_few_and_too_many(self):
        for shares in ((2, 1, -1), (0, 0, -1), (1, 1), (1, 1, 0, 0), (), (1,)):
            self.assertIs(shows_none(HINDERED, shares), False)
        self.assertIs(shows_none([((-1,), -1)], (-1,)), False)

    def test_no_rows_and_no_unknowns(self):
        self.assertIs(shows_none([], ()), False)
        self.assertIs(shows_none([], (1,)), False)
        self.assertIs(shows_none([((), 1), ((), -1)], (1, 0)), True)
        self.assertIs(shows_none([((), 1), ((), -1)], (1, 1)), False)
        self.assertIs(shows_none([((), 0)], (1,)), False)

    def test_by_chance_told_anew(self):
        source = random.Random(37)
        seen = {True: 0, False: 0}
        for number in range(600):
            many = source.randint(0, 4)
            rows = [(tuple(source.randint(-2, 2) for _ in range(many)), source.randint(-2, 2))
                    for _ in range(source.randint(1, 6))]
            told = settled(rows, (0,) * many)
            if told[0] != "none":
                continue
            self.assertIs(shows_none(rows, told[1]), True)
            for change in range(4):
                shares = changed(told[1], source.randrange(len(rows)), source.choice((1, -1)))
                due = none_is_shown(rows, many, shares)
                seen[due] += 1
                self.assertIs(shows_none(rows, shares), due)
        self.assertGreater(min(seen.values()), 50)


class ShowsRingTest(unittest.TestCase):
    PROGRAM = read(
        "kind lone only\n"
        "def f x lone to lone : pay 1 ; let y call g x ; let z call f y ; give z\n"
        "def g x lone to lone : let y call h x ; give y\n"
        "def h x lone to lone : get 3 ; let y call g x ; let z call f y ; give z\n"
        "def k x lone to lone : case x only : give x end"
    )

    def shares(self, some, above=1):
        """A share at the purse rows of these pieces."""
        return tuple(above if row[0][0] == "purse" and row[0][1:] in some else 0 for row in rows(self.PROGRAM))

    def shown(self, some, ring):
        return shows_ring(self.PROGRAM, self.shares(some), ring)

    ENDS = ((0, 3), (1, 1), (2, 3), (3, 1))

    def test_rings_turned_about(self):
        ring = [(0, 1), (1, 0), (2, 2)]
        for number in range(3):
            self.assertIs(self.shown(self.ENDS, ring[number:] + ring[:number]), True)
        self.assertIs(self.shown(self.ENDS, ring[::-1]), False)

    def test_rings_of_one_and_two(self):
        self.assertIs(self.shown(self.ENDS, [(0, 2)]), True)
        self.assertIs(self.shown(self.ENDS, [(1, 0), (2, 1)]), True)
        self.assertIs(self.shown(self.ENDS, [(2, 1), (1, 0)]), True)
        self.assertIs(self.shown(self.ENDS, [(0, 1)]), False)
        self.assertIs(self.shown(self.ENDS, [(1, 0)]), False)

    def test_twice_round_and_rings_that_meet(self):
        ring = [(0, 1), (1, 0), (2, 2)]
        self.assertIs(self.shown(self.ENDS, ring * 2), True)
        self.assertIs(self.shown(self.ENDS, [(0, 2)] + ring), True)
        self.assertIs(self.shown(self.ENDS, [(0, 2), (0, 2)]), True)
        self.assertIs(self.shown(self.ENDS, [(0, 1), (1, 0), (2, 1), (1, 0), (2, 2)]), True)

    def test_a_pair_lacking_and_another_call(self):
        self.assertIs(self.shown(self.ENDS, [(0, 1), (1, 0)]), False)
        self.assertIs(self.shown(self.ENDS, [(0, 1), (2, 2)]), False)
        self.assertIs(self.shown(self.ENDS, [(1, 0), (2, 2)]), False)
        self.assertIs(self.shown(self.ENDS, [(0, 1), (1, 0), (2, 1)]), False)
        self.assertIs(self.shown(self.ENDS, [(0, 2), (1, 0), (2, 2)]), False)

    def test_pieces_that_are_no_calls(self):
        for pair in ((0, 0), (0, 3), (1, 1), (2, 0), (3, 0), (3, 1)):
            self.assertIs(self.shown(self.ENDS, [pair]), False)
            self.assertIs(self.shown(self.ENDS, [(0, 2), pair]), False)

    def test_what_is_not_there(self):
        for pair in ((4, 0), (-4, 2), (-1, 0), (0, 4), (0, -2), (0, 99), (99, 99), (-4, -2), (10**30, 2)):
            self.assertIs(self.shown(self.ENDS, [pair]), False)
            self.assertIs(self.shown(self.ENDS, [(0, 2), pair]), False)
            self.assertIs(self.shown(self.ENDS, [pair, (0, 2)]), False)

    def test_none(self):
        self.assertIs(self.shown(self.ENDS, []), False)
        self.assertIs(shows_ring(((), ()), (), []), False)
        self.assertIs(shows_ring(((), ()), (), [(0, 0)]), False)

    def test_ways_to_rows_with_shares(self):
        self.assertIs(self.shown(((0, 2),), [(0, 2)]), True)
        self.assertIs(self.shown(((0, 1),), [(0, 2)]), False)
        self.assertIs(self.shown(((0, 0),), [(0, 2)]), False)
        self.assertIs(self.shown((), [(0, 2)]), False)
        self.assertIs(self.shown(((1, 1), (2, 3)), [(0, 2)]), False)
        self.assertIs(self.shown(((0, 1), (1, 0), (2, 2)), [(0, 1), (1, 0), (2, 2)]), True)
        self.assertIs(self.shown(((0, 1), (1, 0), (2, 1)), [(0, 1), (1, 0), (2, 2)]), False)
        self.assertIs(self.shown(((0, 3), (1, 0)), [(0, 1), (1, 0), (2, 2)]), False)

    def test_use_rows(self):
        for row, number in [(row, number) for number, row in enumerate(rows(self.PROGRAM)) if row[0][0] == "use"]:
            shares = tuple(5 if place == number else 0 for place in range(len(rows(self.PROGRAM))))
            self.assertIs(shows_ring(self.PROGRAM, shares, [(0, 2)]), row[0][1:3] == (0, 3))

    def test_shares_behind_those_of_the_rows(self):
        shares = self.shares(())
        for more in ((9,), (1, 1, 1), (0,) * 5):
            self.assertIs(shows_ring(self.PROGRAM, shares + more, [(0, 2)]), False)
            self.assertIs(shows_ring(self.PROGRAM, self.shares(self.ENDS) + more, [(0, 2)]), True)

    def test_arms_of_a_case(self):
        program = read("kind num z | s num\ndef f x num to num : case x z : let y call f x ; give y"
                       " | s a : let y call f a ; give y end")
        for ends, ring in (((0, 2), [(0, 1)]), ((0, 4), [(0, 3)])):
            shares = tuple(1 if row[0] == ("purse",) + ends else 0 for row in rows(program))
            for pair in ((0, 1), (0, 3)):
                self.assertIs(shows_ring(program, shares, [pair]), [pair] == ring)

    def test_by_chance_told_anew(self):
        source = random.Random(38)
        seen = {True: 0, False: 0}
        for program, f, args in small_programs(source, 250):
            pairs = [(g, n) for g in range(len(program[1])) for n in range(12)]
            shares = tuple(source.choice((0, 1)) for _ in rows(program))
            many = len([one for one in unknowns(program) if one[:2] in (("param", f), ("first", f))])
            told = least(program, f, (1,) * many)
            rings = [[source.choice(pairs) for _ in range(source.randint(1, 2))] for _ in range(10)]
            if told[0] == "none":
                self.assertIs(shows_ring(program, told[1], told[2]), True)
                rings += [told[2], told[2] + [source.choice(pairs)], told[2][1:]]
            for ring in rings:
                due = ring_is_shown(program, shares, ring)
                seen[due] += 1
                self.assertIs(shows_ring(program, shares, ring), due)
        self.assertGreater(min(seen.values()), 25)


class KeptTest(unittest.TestCase):
    def test_nothing_handed_in_is_changed(self):
        rows_in, goal = rows_in_full(LIST_PROGRAM), (1,) * len(unknowns(LIST_PROGRAM))
        kept = list(rows_in)
        told = settled(rows_in, goal)
        for again in range(2):
            self.assertIs(shows_price(rows_in, goal, told[1], told[3]), True)
            self.assertIs(shows_none(rows_in, told[3][1]), False)
        self.assertEqual(rows_in, kept)
        ring = [(0, 2)]
        shows_ring(ShowsRingTest.PROGRAM, (1,) * 40, ring)
        self.assertEqual(ring, [(0, 2)])


if __name__ == "__main__":
    unittest.main()
