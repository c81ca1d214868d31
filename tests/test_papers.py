"""Papers: promises 16, 18, 19 and 20, and the first point of 3."""

import random
import unittest

from pursewright.errors import NoPaper
from pursewright.papers import asks, checked, held, tells
from pursewright.reader import read
from pursewright.rows import rows, unknowns
from pursewright.walk import Walk
from tests.helper import LIST_PROGRAM, bound_on, paper_by_chance, sound_programs, ways

NIL = ("nil", ())
ONE = ("one", ())
TWO = ("two", (ONE,))
KINDS = "kind item one | two item\nkind list nil | more item list\nkind lone only\n"


def more(first, rest):
    return ("more", (first, rest))


def paper_of(program, parts, numbers):
    """A paper with these numbers for some unknowns, 0 for all others."""
    assert set(numbers) <= set(unknowns(program))
    return (parts, tuple(numbers.get(unknown, 0) for unknown in unknowns(program)))


# Each thing of a list costs two coins, and the copy may be copied once more.
COPY_NUMBERS = {("param", 0, 0, "more"): 2, ("piece", 0, 0, "more"): 2}
COPY = paper_of(LIST_PROGRAM, 1, COPY_NUMBERS)


def weight_told(value, price):
    return price(value[0]) + sum(weight_told(part, price) for part in value[1])


def held_told(program, paper, frames):
    """Told anew, straight from the document."""
    prices = dict(zip(unknowns(program), paper[1]))
    told = []
    for number, (f, n, names) in enumerate(frames):
        way = [way for way in ways(program[1][f][3]) if way[-1][0] == n][0]
        waits = number + 1 < len(frames)
        free = prices[("first", f)]
        for k, piece, arm in way[:-1]:
            if piece[0] == "make":
                free -= prices[("piece", f, k, piece[2])]
            elif piece[0] == "call":
                g = [function[0] for function in program[1]].index(piece[2])
                free += prices[("last", g)] - prices[("first", g)]
            elif piece[0] == "case":
                free += prices[("piece", f, k, arm[0])]
            elif piece[0] == "pay":
                free -= paper[0] * piece[1]
            elif piece[0] == "get":
                free += paper[0] * piece[1]
        if waits:
            g = [function[0] for function in program[1]].index(way[-1][1][2])
            free -= prices[("first", g)]
        for name, kind, source in bound_on(program, f, way):
            free += weight_told(names[name], lambda maker: prices[source + (maker,)])
            for k, piece, arm in way if waits else way[:-1]:
                for family in taken_told(program, f, k, piece, name):
                    free -= weight_told(names[name], lambda maker: prices[family + (maker,)])
        told.append(free)
    return told


def taken_told(program, f, k, piece, name):
    if piece[0] == "make":
        return [("piece", f, k)] * piece[3].count(name)
    if piece[0] == "call":
        g = [function[0] for function in program[1]].index(piece[2])
        return [("param", g, place) for place, used in enumerate(piece[3]) if used == name]
    looked = {"name": piece[2:3], "case": piece[1:2]}.get(piece[0], ())
    return [("piece", f, k)] if name in looked else []


class CheckedTest(unittest.TestCase):
    def refused(self, program, paper, row):
        with self.assertRaises(NoPaper) as caught:
            checked(program, paper)
        self.assertEqual(caught.exception.row, row)

    def why(self, program, why):
        return [row[0] for row in rows(program)].index(why)

    def test_let_by(self):
        self.assertIs(checked(LIST_PROGRAM, COPY), True)
        self.assertIs(checked(((), ()), (1, ())), True)
        self.assertIs(checked(read("kind a b"), (7, ())), True)

    def test_nothing_but_noughts(self):
        program = read(KINDS + "def f x lone to lone : get 3 ; give x")
        self.assertIs(checked(program, paper_of(program, 1, {})), True)
        self.assertIs(checked(program, paper_of(program, 10**6, {})), True)

    def test_the_first_row_that_is_not_kept(self):
        numbers = {**COPY_NUMBERS, ("piece", 0, 0, "more"): 1}
        self.refused(LIST_PROGRAM, paper_of(LIST_PROGRAM, 1, numbers), self.why(LIST_PROGRAM, ("purse", 0, 3)))
        numbers = {**COPY_NUMBERS, ("param", 0, 0, "more"): 1}
        # Two use rows aren't kept: those of both gives; but ahead of the second one nothing else.
        self.refused(LIST_PROGRAM, paper_of(LIST_PROGRAM, 1, numbers), self.why(LIST_PROGRAM, ("use", 0, 2, "x", "more")))
        numbers = {**COPY_NUMBERS, ("result", 0, "nil"): 1}
        self.refused(LIST_PROGRAM, paper_of(LIST_PROGRAM, 1, numbers), self.why(LIST_PROGRAM, ("use", 0, 2, "e", "nil")))
        numbers = {**COPY_NUMBERS, ("last", 2): 1}
        self.refused(LIST_PROGRAM, paper_of(LIST_PROGRAM, 1, numbers), self.why(LIST_PROGRAM, ("purse", 2, 1)))

    def test_just_kept_and_one_part_short(self):
        program = read(KINDS + "def f x lone to lone : pay 3 ; give x")
        for parts in (1, 2, 999, 10**6):
            self.assertIs(checked(program, paper_of(program, parts, {("first", 0): 3 * parts})), True)
            self.refused(program, paper_of(program, parts, {("first", 0): 3 * parts - 1}), 0)
            self.assertIs(checked(program, paper_of(program, parts, {("first", 0): 3 * parts + 1, ("last", 0): 1})), True)
            self.refused(program, paper_of(program, parts, {("first", 0): 3 * parts + 1, ("last", 0): 2}), 1)

    def test_gets(self):
        program = read(KINDS + "def f x lone to lone : get 3 ; give x")
        self.assertIs(checked(program, paper_of(program, 2, {("last", 0): 6})), True)
        self.refused(program, paper_of(program, 2, {("last", 0): 7}), 0)

    def test_parts_below_one(self):
        for parts in (0, -1, -10**6):
            self.refused(LIST_PROGRAM, (parts, COPY[1]), None)
            self.refused(LIST_PROGRAM, (parts, (0,) * len(COPY[1])), None)
            self.refused(((), ()), (parts, ()), None)

    def test_numbers_too_few_and_too_many(self):
        for numbers in (COPY[1][:-1], COPY[1] + (0,), COPY[1][1:], (), COPY[1] * 2, (0,) * (len(COPY[1]) - 1)):
            self.refused(LIST_PROGRAM, (1, numbers), None)
        self.refused(((), ()), (1, (0,)), None)

    def test_numbers_below_nought(self):
        for place in range(len(COPY[1])):
            numbers = COPY[1][:place] + (-1,) + COPY[1][place + 1 :]
            self.refused(LIST_PROGRAM, (1, numbers), None)
            self.refused(LIST_PROGRAM, (1, tuple(-1 if other == place else 0 for other in range(len(numbers)))), None)

    def test_great_numbers(self):
        program = read(KINDS + "def f x lone to lone : pay 999999 ; give x")
        great = 999999 * 10**6
        self.assertIs(checked(program, paper_of(program, 10**6, {("first", 0): great})), True)
        self.refused(program, paper_of(program, 10**6, {("first", 0): great - 1}), 0)
        all_great = (1, (10**12,) * len(unknowns(LIST_PROGRAM)))
        first = [number for number, row in enumerate(rows(LIST_PROGRAM)) if sum(row[1].values()) * 10**12 < row[2]][0]
        self.refused(LIST_PROGRAM, all_great, first)

    def test_by_chance(self):
        source = random.Random(20)
        seen = {}
        for program, f, args in sound_programs(source, 150, 4):
            paper = paper_by_chance(source, program)
            if paper is None:
                continue
            self.assertIs(checked(program, paper), True)
            numbers = list(paper[1])
            for change in range(3):
                place = source.randrange(len(numbers))
                numbers[place] = max(0, numbers[place] + source.choice((-paper[0], -1, 1, paper[0])))
            due = [number for number, (why, weights, least) in enumerate(rows(program))
                   if sum(weight * numbers[place] for place, weight in weights.items()) < paper[0] * least]
            seen[len(due) > 0] = seen.get(len(due) > 0, 0) + 1
            if due:
                self.refused(program, (paper[0], tuple(numbers)), due[0])
            else:
                self.assertIs(checked(program, (paper[0], tuple(numbers))), True)
        self.assertGreater(min(seen[True], seen[False]), 10)


class AsksTest(unittest.TestCase):
    def test_asks(self):
        numbers = {("param", 0, 0, "one"): 1, ("param", 0, 0, "two"): 10, ("param", 0, 0, "nil"): 100,
                   ("param", 0, 0, "more"): 1000, ("first", 0): 50000, ("result", 0, "one"): 7, ("first", 2): 9}
        paper = paper_of(LIST_PROGRAM, 3, numbers)
        self.assertEqual(asks(LIST_PROGRAM, paper, 0, (NIL,)), 50100)
        self.assertEqual(asks(LIST_PROGRAM, paper, 0, [more(ONE, NIL)]), 51101)
        self.assertEqual(asks(LIST_PROGRAM, paper, 0, (more(TWO, more(("two", (TWO,)), more(ONE, NIL))),)), 53133)
        self.assertEqual(asks(LIST_PROGRAM, paper, 2, ()), 9)
        self.assertEqual(asks(LIST_PROGRAM, paper, 1, (TWO,)), 0)

    def test_tells(self):
        numbers = {("result", 0, "one"): 1, ("result", 0, "two"): 10, ("result", 0, "nil"): 100,
                   ("result", 0, "more"): 1000, ("last", 0): 50000, ("param", 0, 0, "one"): 7, ("last", 2): 9}
        paper = paper_of(LIST_PROGRAM, 3, numbers)
        self.assertEqual(tells(LIST_PROGRAM, paper, 0, NIL), 50100)
        self.assertEqual(tells(LIST_PROGRAM, paper, 0, more(TWO, more(("two", (TWO,)), more(ONE, NIL)))), 53133)
        self.assertEqual(tells(LIST_PROGRAM, paper, 2, NIL), 9)
        self.assertEqual(tells(LIST_PROGRAM, paper, 1, TWO), 0)

    def test_several_params_have_weights_of_their_own(self):
        program = read(KINDS + "def f x item y item to item : give y")
        numbers = {("param", 0, 0, "one"): 1, ("param", 0, 1, "one"): 20, ("param", 0, 1, "two"): 300, ("first", 0): 4000}
        paper = paper_of(program, 1, numbers)
        self.assertEqual(asks(program, paper, 0, (ONE, TWO)), 4321)
        self.assertEqual(asks(program, paper, 0, (TWO, ONE)), 4021)
        self.assertEqual(asks(program, paper, 0, (ONE, ("two", (TWO,)))), 4621)

    def test_a_maker_that_stands_often(self):
        value = NIL
        for number in range(66):
            value = more(TWO, value)
        numbers = {("param", 0, 0, "two"): 10**12, ("result", 0, "more"): 10**12, ("result", 0, "nil"): 1}
        paper = paper_of(LIST_PROGRAM, 1, numbers)
        self.assertEqual(asks(LIST_PROGRAM, paper, 0, (value,)), 66 * 10**12)
        self.assertEqual(tells(LIST_PROGRAM, paper, 0, value), 66 * 10**12 + 1)

    def test_by_chance_told_anew(self):
        source = random.Random(21)
        for program, f, args in sound_programs(source, 100, 6):
            numbers = tuple(source.randint(0, 9) for _ in unknowns(program))
            prices = dict(zip(unknowns(program), numbers))
            due = prices[("first", f)]
            for k, value in enumerate(args):
                due += weight_told(value, lambda maker: prices[("param", f, k, maker)])
            self.assertEqual(asks(program, (5, numbers), f, args), due)
            kind = program[1][f][2]
            for value, (name, of) in zip(args, program[1][f][1]):
                if of == kind:
                    due = prices[("last", f)] + weight_told(value, lambda maker: prices[("result", f, maker)])
                    self.assertEqual(tells(program, (5, numbers), f, value), due)


class HeldTest(unittest.TestCase):
    def test_no_frames(self):
        self.assertEqual(held(LIST_PROGRAM, COPY, []), [])

    def test_a_copy(self):
        value = more(ONE, more(TWO, NIL))
        walk = Walk(LIST_PROGRAM, 0, (value,), 4)
        told = [held(LIST_PROGRAM, COPY, walk.frames())]
        while walk.turn():
            told.append(held(LIST_PROGRAM, COPY, walk.frames()))
        # The case gives a thing's two coins free, the pay takes them; the rest goes with the call.
        self.assertEqual(told, [[4], [4], [2], [0, 2], [0, 2], [0, 0], [0, 0, 0], [0, 0, 0], [0, 0, 0], [0, 0],
                                [0, 0], [0], [0]])
        self.assertEqual(held(LIST_PROGRAM, COPY, walk.frames()), [])

    def test_each_sort_of_piece(self):
        program = read(KINDS + "def f x item y item to list : pay 3 ; get 2 ; let a name y ; let b make nil ;"
                       " let c make more x b ; let d call g a ; case d one : give c | two z : give b end\n"
                       "def g x item to item : give x")
        source = random.Random(22)
        prices = {unknown: source.randint(0, 10**6) for unknown in unknowns(program)}
        paper = paper_of(program, 7, prices)
        for args in ((ONE, TWO), (TWO, ONE), (("two", (TWO,)), ("two", (TWO,)))):
            walk = Walk(program, 0, args, 100)
            first = prices[("first", 0)] + sum(
                weight_told(value, lambda maker: prices[("param", 0, k, maker)]) for k, value in enumerate(args))
            self.assertEqual(held(program, paper, walk.frames()), [first])
            self.assertEqual(first, asks(program, paper, 0, args))
            walk.turn()
            self.assertEqual(held(program, paper, walk.frames()), [first - 21])
            walk.turn()
            self.assertEqual(held(program, paper, walk.frames()), [first - 7])
            walk.turn()
            self.assertEqual(held(program, paper, walk.frames()), [first - 7])
            walk.turn()
            self.assertEqual(held(program, paper, walk.frames()), [first - 7])
            walk.turn()
            # What goes into a thing that is made goes on within it, and its own maker's weight is taken for it.
            self.assertEqual(held(program, paper, walk.frames()), [first - 7])
            walk.turn()
            given = prices[("first", 1)] + weight_told(args[1], lambda maker: prices[("param", 1, 0, maker)])
            self.assertEqual(held(program, paper, walk.frames()), [first - 7 - given, given])
            walk.turn()
            back = prices[("last", 1)] + weight_told(args[1], lambda maker: prices[("result", 1, maker)])
            self.assertEqual(held(program, paper, walk.frames()), [first - 7 - given + back])
            walk.turn()
            self.assertEqual(held(program, paper, walk.frames()), [first - 7 - given + back])
            self.assertIs(walk.turn(), False)

    def test_by_chance_told_anew(self):
        source = random.Random(23)
        for program, f, args in sound_programs(source, 60, 6):
            paper = (source.randint(1, 9), tuple(source.randint(0, 99) for _ in unknowns(program)))
            walk = Walk(program, f, args, 10**9)
            for step in range(40):
                told = held(program, paper, walk.frames())
                self.assertEqual(told, held_told(program, paper, walk.frames()))
                self.assertEqual({type(number) for number in told} - {int}, set())
                if not walk.turn():
                    break

    def test_many_frames(self):
        program = read("kind unit u\ndef f x unit to unit : let y call f x ; pay 1 ; give y")
        paper = paper_of(program, 1, {("first", 0): 5, ("param", 0, 0, "u"): 3})
        walk = Walk(program, 0, (("u", ()),), 0)
        for step in range(2000):
            walk.turn()
        self.assertEqual(held(program, paper, walk.frames()), [0] * 2000 + [8])

    def test_nothing_handed_in_is_changed(self):
        walk = Walk(LIST_PROGRAM, 0, (more(ONE, NIL),), 9)
        for step in range(4):
            walk.turn()
        frames = walk.frames()
        told = held(LIST_PROGRAM, COPY, frames)
        self.assertIs(type(told), list)
        self.assertEqual(frames, walk.frames())
        kept = list(told)
        told.clear()
        self.assertEqual(held(LIST_PROGRAM, COPY, frames), kept)


class PromiseTest(unittest.TestCase):
    def run_with(self, program, paper, f, args, coins, most):
        """Looks at a run as the first point of 3 has it, and tells how it ended."""
        walk = Walk(program, f, args, coins)
        above = paper[0] * coins - asks(program, paper, f, args)
        self.assertGreaterEqual(above, 0)
        for step in range(most):
            self.assertGreaterEqual(paper[0] * walk.purse(), sum(held(program, paper, walk.frames())))
            if not walk.turn():
                break
        end = walk.end()
        if end is not None:
            self.assertNotEqual(end[0], "short")
            if end[0] == "gave":
                self.assertGreaterEqual(paper[0] * walk.purse(), tells(program, paper, f, end[1]) + above)
        return end and end[0]

    def test_copies(self):
        value = more(ONE, more(TWO, more(ONE, NIL)))
        for coins in (6, 7, 100):
            self.assertEqual(self.run_with(LIST_PROGRAM, COPY, 0, (value,), coins, 100), "gave")

    def test_by_chance(self):
        source = random.Random(24)
        ends = {}
        for program, f, args in sound_programs(source, 250, 7):
            paper = paper_by_chance(source, program)
            if paper is None:
                continue
            self.assertIs(checked(program, paper), True)
            least = -(-asks(program, paper, f, args) // paper[0])
            end = self.run_with(program, paper, f, args, least + source.choice((0, 0, 1, 9)), 100)
            ends[end] = ends.get(end, 0) + 1
        self.assertGreater(min(ends["gave"], ends[None]), 20)


if __name__ == "__main__":
    unittest.main()
