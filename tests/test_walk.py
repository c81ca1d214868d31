"""Runs, their frames, turns and ends: promises 12 and 13."""

import random
import unittest

from pursewright.reader import read
from pursewright.values import depth, size
from pursewright.walk import Walk
from tests.helper import LIST_PROGRAM, nested, run_told, sound_programs

NIL = ("nil", ())
ONE = ("one", ())
TWO = ("two", (ONE,))
PROGRAM = read(
    "\n".join(
        [
            "kind item one | two item",
            "kind list nil | more item list",
            "def main x item y list to list : let a name x ; pay 3 ; let b call wrap a ; get 5 ;"
            " let c make more b y ; let d call ends c ; give d",
            "def wrap x item to item : let y make two x ; get 1 ; give y",
            "def ends x list to list : case x nil : let n call fresh ; give n"
            " | more a b : case a one : give b | two z : pay 4 ; let y make more z b ; give y end end",
            "def fresh to list : let n make nil ; give n",
            "def loop x item to item : let y call loop x ; give y",
            "def same x item to item : give x",
        ]
    )
)
MAIN, WRAP, ENDS, FRESH, LOOP, SAME = range(6)


def more(first, rest):
    return ("more", (first, rest))


def spread(makers):
    """A list of so many makers, an odd number, that lies flat enough."""
    if makers == 1:
        return NIL
    half = (makers - 1) // 2
    half += 1 - half % 2
    return ("join", (spread(half), spread(makers - 1 - half)))


class TurnTest(unittest.TestCase):
    def check(self, walk, frames, purse, steps):
        self.assertEqual(walk.frames(), frames)
        self.assertEqual((walk.purse(), walk.steps()), (purse, steps))
        self.assertIs(walk.end(), None)

    def test_each_piece_is_a_step(self):
        walk = Walk(PROGRAM, MAIN, (ONE, NIL), 10)
        names = {"x": ONE, "y": NIL}
        self.check(walk, [(MAIN, 0, names)], 10, 0)
        self.assertIs(walk.turn(), True)
        names = {"x": ONE, "y": NIL, "a": ONE}
        self.check(walk, [(MAIN, 1, names)], 10, 1)
        self.assertIs(walk.turn(), True)
        self.check(walk, [(MAIN, 2, names)], 7, 2)
        self.assertIs(walk.turn(), True)
        self.check(walk, [(MAIN, 2, names), (WRAP, 0, {"x": ONE})], 7, 3)
        self.assertIs(walk.turn(), True)
        self.check(walk, [(MAIN, 2, names), (WRAP, 1, {"x": ONE, "y": TWO})], 7, 4)
        self.assertIs(walk.turn(), True)
        self.check(walk, [(MAIN, 2, names), (WRAP, 2, {"x": ONE, "y": TWO})], 8, 5)
        self.assertIs(walk.turn(), True)
        names["b"] = TWO
        self.check(walk, [(MAIN, 3, names)], 8, 6)
        self.assertIs(walk.turn(), True)
        self.check(walk, [(MAIN, 4, names)], 13, 7)
        self.assertIs(walk.turn(), True)
        names["c"] = more(TWO, NIL)
        self.check(walk, [(MAIN, 5, names)], 13, 8)
        self.assertIs(walk.turn(), True)
        inner = {"x": more(TWO, NIL)}
        self.check(walk, [(MAIN, 5, names), (ENDS, 0, inner)], 13, 9)
        self.assertIs(walk.turn(), True)
        inner.update({"a": TWO, "b": NIL})
        self.check(walk, [(MAIN, 5, names), (ENDS, 3, inner)], 13, 10)
        self.assertIs(walk.turn(), True)
        inner["z"] = ONE
        self.check(walk, [(MAIN, 5, names), (ENDS, 5, inner)], 13, 11)
        self.assertIs(walk.turn(), True)
        self.check(walk, [(MAIN, 5, names), (ENDS, 6, inner)], 9, 12)
        self.assertIs(walk.turn(), True)
        inner["y"] = more(ONE, NIL)
        self.check(walk, [(MAIN, 5, names), (ENDS, 7, inner)], 9, 13)
        self.assertIs(walk.turn(), True)
        names["d"] = more(ONE, NIL)
        self.check(walk, [(MAIN, 6, names)], 9, 14)
        self.assertIs(walk.turn(), False)
        self.assertEqual(walk.end(), ("gave", more(ONE, NIL)))
        self.assertEqual((walk.frames(), walk.purse(), walk.steps()), ([], 9, 15))

    def test_the_first_arm_and_a_function_without_params(self):
        walk = Walk(PROGRAM, ENDS, [NIL], 0)
        walk.turn()
        self.check(walk, [(ENDS, 1, {"x": NIL})], 0, 1)
        walk.turn()
        self.check(walk, [(ENDS, 1, {"x": NIL}), (FRESH, 0, {})], 0, 2)
        walk.turn()
        walk.turn()
        self.check(walk, [(ENDS, 2, {"x": NIL, "n": NIL})], 0, 4)
        self.assertFalse(walk.turn())
        self.assertEqual(walk.end(), ("gave", NIL))

    def test_pieces_behind_the_first_arm_of_an_inner_case(self):
        walk = Walk(PROGRAM, ENDS, (more(ONE, NIL),), 0)
        walk.turn()
        walk.turn()
        self.check(walk, [(ENDS, 4, {"x": more(ONE, NIL), "a": ONE, "b": NIL})], 0, 2)
        walk.turn()
        self.assertEqual(walk.end(), ("gave", NIL))

    def test_calls_of_itself(self):
        value = more(ONE, more(TWO, NIL))
        walk = Walk(LIST_PROGRAM, 0, (value,), 4)
        for number in range(7):
            walk.turn()
        # Two frames wait at their call, which is piece 4 behind the first arm's two.
        first = {"x": value, "a": ONE, "b": more(TWO, NIL)}
        second = {"x": more(TWO, NIL), "a": TWO, "b": NIL}
        self.check(walk, [(0, 4, first), (0, 4, second), (0, 1, {"x": NIL})], 0, 7)
        while walk.turn():
            pass
        self.assertEqual(walk.end(), ("gave", value))
        self.assertEqual((walk.purse(), walk.steps()), (0, 13))

    def test_a_run_without_end(self):
        walk = Walk(PROGRAM, LOOP, (ONE,), 0)
        for number in range(2000):
            self.assertIs(walk.turn(), True)
        self.check(walk, [(LOOP, 0, {"x": ONE})] * 2001, 0, 2000)

    def test_kinds_of_what_is_told(self):
        walk = Walk(PROGRAM, MAIN, (ONE, NIL), 10)
        for number in range(15):
            self.assertIs(type(walk.frames()), list)
            for frame in walk.frames():
                self.assertEqual([type(part) for part in frame], [int, int, dict])
            self.assertEqual([type(walk.purse()), type(walk.steps())], [int, int])
            walk.turn()
        self.assertIs(type(walk.end()), tuple)
        self.assertEqual(walk.frames(), [])

    def test_frames_may_be_changed(self):
        walk = Walk(PROGRAM, MAIN, (ONE, NIL), 10)
        other = Walk(PROGRAM, MAIN, (ONE, NIL), 10)
        while True:
            frames = walk.frames()
            for frame in frames:
                frame[2].clear()
                frame[2]["x"] = NIL
            frames.clear()
            self.assertEqual(walk.frames(), other.frames())
            self.assertIsNot(walk.frames(), walk.frames())
            if not walk.turn() or not other.turn():
                break
        self.assertEqual(walk.end(), ("gave", more(ONE, NIL)))

    def test_what_was_told_stays_behind_a_turn(self):
        walk = Walk(PROGRAM, MAIN, (ONE, NIL), 10)
        before = walk.frames()
        walk.turn()
        self.assertEqual(before, [(MAIN, 0, {"x": ONE, "y": NIL})])

    def test_args_may_be_changed(self):
        args = [ONE, NIL]
        walk = Walk(PROGRAM, MAIN, args, 10)
        args[0] = TWO
        args.clear()
        self.check(walk, [(MAIN, 0, {"x": ONE, "y": NIL})], 10, 0)
        while walk.turn():
            pass
        self.assertEqual(walk.end(), ("gave", more(ONE, NIL)))
        args = [ONE, NIL]
        walk = Walk(PROGRAM, MAIN, args, 10)
        while walk.turn():
            pass
        self.assertEqual(args, [ONE, NIL])

    def test_two_walks_side_by_side(self):
        first = Walk(PROGRAM, MAIN, (ONE, NIL), 10)
        second = Walk(PROGRAM, MAIN, (TWO, more(ONE, NIL)), 3)
        for number in range(3):
            first.turn()
        self.check(second, [(MAIN, 0, {"x": TWO, "y": more(ONE, NIL)})], 3, 0)
        while second.turn():
            pass
        self.assertEqual(second.end(), ("gave", more(TWO, more(ONE, NIL))))
        self.check(first, [(MAIN, 2, {"x": ONE, "y": NIL, "a": ONE}), (WRAP, 0, {"x": ONE})], 7, 3)


class EndTest(unittest.TestCase):
    def run_whole(self, program, f, args, coins):
        walk = Walk(program, f, args, coins)
        turns = 1
        while walk.turn():
            turns += 1
        self.check_ended(walk, turns)
        return walk

    def check_ended(self, walk, turns):
        end, purse = walk.end(), walk.purse()
        self.assertIsNotNone(end)
        self.assertEqual((walk.frames(), walk.steps()), ([], turns))
        for number in range(3):
            self.assertIs(walk.turn(), False)
            self.assertEqual((walk.end(), walk.frames(), walk.purse(), walk.steps()), (end, [], purse, turns))

    def test_gave(self):
        walk = self.run_whole(PROGRAM, SAME, (TWO,), 7)
        self.assertEqual((walk.end(), walk.purse(), walk.steps()), (("gave", TWO), 7, 1))

    def test_short(self):
        program = read("kind unit one\ndef f x unit to unit : get 2 ; pay 5 ; pay 1 ; give x\n"
                       "def g x unit to unit : let y call f x ; give y")
        # The purse of f is that of g, and a call is a step.
        for f, more_steps in ((0, 0), (1, 1)):
            walk = self.run_whole(program, f, (("one", ()),), 2)
            self.assertEqual((walk.end(), walk.purse(), walk.steps()), (("short", 5), 4, 2 + more_steps))
            walk = self.run_whole(program, f, (("one", ()),), 3)
            self.assertEqual((walk.end(), walk.purse(), walk.steps()), (("short", 1), 0, 3 + more_steps))
            walk = self.run_whole(program, f, (("one", ()),), 4)
            self.assertEqual((walk.end(), walk.purse()), (("gave", ("one", ())), 0))

    def test_a_pay_of_just_what_the_purse_holds(self):
        program = read("kind unit one\ndef f x unit to unit : pay 9999999 ; give x")
        for coins, end, left in ((9999999, ("gave", ("one", ())), 0), (9999998, ("short", 9999999), 9999998),
                                 (0, ("short", 9999999), 0), (10**9, ("gave", ("one", ())), 10**9 - 9999999)):
            walk = self.run_whole(program, 0, (("one", ()),), coins)
            self.assertEqual((walk.end(), walk.purse()), (end, left))

    def test_two_hundred_makers(self):
        program = read("kind item one | two item\nkind list nil | more item list | join list list\n"
                       "def f x list y list to list : pay 1 ; let z make join x y ; pay 1 ; give z")
        for first, second, fits in ((99, 99, True), (99, 101, False), (1, 199, False), (101, 97, True), (101, 99, False)):
            args = (spread(first), spread(second))
            self.assertEqual([size(value) for value in args], [first, second])
            walk = self.run_whole(program, 0, args, 2)
            if fits:
                self.assertEqual(walk.end(), ("gave", ("join", args)))
                self.assertEqual((walk.purse(), walk.steps()), (0, 4))
            else:
                self.assertEqual((walk.end(), walk.purse(), walk.steps()), (("great", "join"), 1, 2))

    def test_just_two_hundred_and_one_more(self):
        program = read("kind item one | two item\nkind list nil | more item list | join list list\n"
                       "def f x item y list to list : let z make more x y ; give z")
        for item, rest in ((TWO, 197), (nested("two", ONE, 2), 197), (ONE, 199)):
            made = ("more", (item, spread(rest)))
            walk = self.run_whole(program, 0, made[1], 0)
            self.assertEqual(walk.end(), ("gave", made) if size(made) <= 200 else ("great", "more"))
        self.assertEqual(size(("more", (TWO, spread(197)))), 200)
        self.assertEqual(size(("more", (nested("two", ONE, 2), spread(197)))), 201)
        self.assertEqual(size(("more", (ONE, spread(199)))), 201)

    def test_sixty_within_one_another(self):
        program = read("kind item one | two item\ndef f x item to item : get 3 ; let z make two x ; give z")
        for within in (1, 58, 59):
            walk = self.run_whole(program, 0, (nested("two", ONE, within - 1),), 0)
            self.assertEqual((walk.end(), walk.steps()), (("gave", nested("two", ONE, within)), 3))
            self.assertEqual(depth(walk.end()[1]), within + 1)
        walk = self.run_whole(program, 0, (nested("two", ONE, 59),), 0)
        self.assertEqual((walk.end(), walk.purse(), walk.steps()), (("great", "two"), 3, 2))

    def test_the_longest_way_inward_counts(self):
        program = read("kind item one | two item\nkind pair both item item\ndef f x item y item to pair : let z make both x y ; give z")
        deep, flat = nested("two", ONE, 59), ONE
        for args in ((deep, flat), (flat, deep), (deep, deep)):
            self.assertEqual(self.run_whole(program, 0, args, 0).end(), ("great", "both"))
        for args in ((deep[1][0], flat), (flat, deep[1][0]), (deep[1][0], deep[1][0])):
            self.assertEqual(self.run_whole(program, 0, args, 0).end(), ("gave", ("both", args)))

    def test_great_in_a_frame_above_others(self):
        program = read("kind item one | two item\ndef f x item to item : let y make two x ; let z call f y ; give z")
        walk = self.run_whole(program, 0, (ONE,), 5)
        self.assertEqual((walk.end(), walk.purse(), walk.steps()), (("great", "two"), 5, 119))

    def test_by_chance_told_anew(self):
        source = random.Random(13)
        ends = {}
        for program, f, args in sound_programs(source, 400, 6):
            coins = source.choice((0, 1, 50, 10**6, 10**9))
            passed, ended = run_told(program, f, args, coins, 150)
            walk = Walk(program, f, args, coins)
            for frames, purse in passed:
                self.assertIs(walk.end(), None)
                self.assertEqual((walk.frames(), walk.purse()), (frames, purse))
                told = walk.turn()
            self.assertIs(told, ended[0] is None)
            self.assertEqual((walk.end(), walk.purse(), walk.steps()), ended)
            ends[ended[0] and ended[0][0]] = ends.get(ended[0] and ended[0][0], 0) + 1
        self.assertGreater(min(ends[end] for end in (None, "gave", "short", "great")), 1)


if __name__ == "__main__":
    unittest.main()
