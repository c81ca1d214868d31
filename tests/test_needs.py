"""Runs of at most so many steps, and what a run needs: promise 14."""

import random
import unittest

from pursewright.needs import need, ran
from pursewright.reader import read
from tests.helper import LIST_PROGRAM, run_told, sound_programs

NIL = ("nil", ())
ONE = ("one", ())
UNIT = ("u", ())
PROGRAM = read(
    "\n".join(
        [
            "kind unit u",
            "kind num z | s num",
            "def first x unit to unit : pay 5 ; get 9 ; give x",
            "def later x unit to unit : get 9 ; pay 5 ; pay 6 ; get 1 ; pay 3 ; give x",
            "def free x unit to unit : let y name x ; give y",
            "def gets x unit to unit : get 4 ; give x",
            "def grow x num to num : pay 2 ; let y make s x ; get 1 ; let z call grow y ; give z",
            "def loop x unit to unit : pay 3 ; get 2 ; let y call loop x ; give y",
            "def rich x unit to unit : get 1 ; let y call rich x ; give y",
            "def all x unit to unit : pay 9999999 ; pay 9999999 ; get 9999999 ; pay 9999999 ; give x",
        ]
    )
)
FIRST, LATER, FREE, GETS, GROW, LOOP, RICH, ALL = range(8)


def more(first, rest):
    return ("more", (first, rest))


class RanTest(unittest.TestCase):
    def test_nought_steps(self):
        for f in (FIRST, LATER, FREE, LOOP):
            self.assertEqual(ran(PROGRAM, f, (UNIT,), 7, 0), (("late",), 7, 0))

    def test_just_as_many_as_the_run_has(self):
        self.assertEqual(ran(PROGRAM, FIRST, (UNIT,), 5, 3), (("gave", UNIT), 9, 3))
        self.assertEqual(ran(PROGRAM, FIRST, (UNIT,), 5, 4), (("gave", UNIT), 9, 3))
        self.assertEqual(ran(PROGRAM, FIRST, (UNIT,), 5, 2000), (("gave", UNIT), 9, 3))
        self.assertEqual(ran(PROGRAM, FIRST, (UNIT,), 5, 2), (("late",), 9, 2))
        self.assertEqual(ran(PROGRAM, FIRST, (UNIT,), 5, 1), (("late",), 0, 1))

    def test_short_and_great(self):
        self.assertEqual(ran(PROGRAM, FIRST, (UNIT,), 4, 1), (("short", 5), 4, 1))
        self.assertEqual(ran(PROGRAM, FIRST, (UNIT,), 4, 0), (("late",), 4, 0))
        self.assertEqual(ran(PROGRAM, LATER, (UNIT,), 2, 100), (("short", 3), 1, 5))
        self.assertEqual(ran(PROGRAM, GROW, (("z", ()),), 10**9, 2000), (("great", "s"), 10**9 - 61, 59 * 4 + 2))
        self.assertEqual(ran(PROGRAM, GROW, (("z", ()),), 10**9, 59 * 4 + 1), (("late",), 10**9 - 61, 59 * 4 + 1))

    def test_two_thousand_steps(self):
        self.assertEqual(ran(PROGRAM, LOOP, (UNIT,), 10**9, 2000), (("late",), 10**9 - 667, 2000))
        self.assertEqual(ran(PROGRAM, RICH, (UNIT,), 0, 2000), (("late",), 1000, 2000))

    def test_args_as_a_list(self):
        args = [more(ONE, more(ONE, NIL))]
        self.assertEqual(ran(LIST_PROGRAM, 0, args, 4, 100), (("gave", args[0]), 0, 13))
        self.assertEqual(need(LIST_PROGRAM, 0, args, 100), (4, ("gave", args[0])))
        self.assertEqual(args, [more(ONE, more(ONE, NIL))])

    def test_no_params(self):
        self.assertEqual(ran(LIST_PROGRAM, 2, (), 1, 5), (("gave", NIL), 1, 2))
        self.assertEqual(need(LIST_PROGRAM, 2, [], 5), (0, ("gave", NIL)))

    def test_kinds(self):
        told = ran(PROGRAM, FIRST, (UNIT,), 5, 3)
        self.assertEqual([type(part) for part in told], [tuple, int, int])
        self.assertEqual([type(part) for part in need(PROGRAM, FIRST, (UNIT,), 3)], [int, tuple])
        self.assertIs(type(told), tuple)


class NeedTest(unittest.TestCase):
    def test_pays_and_gets(self):
        self.assertEqual(need(PROGRAM, FIRST, (UNIT,), 100), (5, ("gave", UNIT)))
        self.assertEqual(need(PROGRAM, LATER, (UNIT,), 100), (4, ("gave", UNIT)))
        self.assertEqual(need(PROGRAM, FREE, (UNIT,), 100), (0, ("gave", UNIT)))
        self.assertEqual(need(PROGRAM, GETS, (UNIT,), 100), (0, ("gave", UNIT)))

    def test_so_many_steps(self):
        told = [need(PROGRAM, LATER, (UNIT,), most) for most in range(8)]
        self.assertEqual([coins for coins, end in told], [0, 0, 0, 2, 2, 4, 4, 4])
        self.assertEqual([end for coins, end in told], [("late",)] * 6 + [("gave", UNIT)] * 2)

    def test_great_and_late(self):
        self.assertEqual(need(PROGRAM, GROW, (("z", ()),), 2000), (61, ("great", "s")))
        self.assertEqual(need(PROGRAM, GROW, (("z", ()),), 59 * 4 + 2), (61, ("great", "s")))
        self.assertEqual(need(PROGRAM, GROW, (("z", ()),), 59 * 4 + 1), (61, ("late",)))
        self.assertEqual(need(PROGRAM, GROW, (("z", ()),), 59 * 4), (60, ("late",)))
        self.assertEqual(need(PROGRAM, LOOP, (UNIT,), 2000), (669, ("late",)))
        self.assertEqual(need(PROGRAM, RICH, (UNIT,), 2000), (0, ("late",)))

    def test_nought_steps(self):
        for f in (FIRST, LATER, FREE, LOOP):
            self.assertEqual(need(PROGRAM, f, (UNIT,), 0), (0, ("late",)))

    def test_great_pays(self):
        self.assertEqual(need(PROGRAM, ALL, (UNIT,), 10), (2 * 9999999, ("gave", UNIT)))
        self.assertEqual(need(PROGRAM, ALL, (UNIT,), 1), (9999999, ("late",)))
        beyond = (PROGRAM[0], (("f", (("x", "unit"),), "unit", ("pay", 10**12, ("pay", 10**12, ("give", "x")))),))
        self.assertEqual(need(beyond, 0, (UNIT,), 10), (2 * 10**12, ("gave", UNIT)))

    def test_with_these_coins_and_with_one_fewer(self):
        source = random.Random(14)
        seen = {}
        for program, f, args in sound_programs(source, 400, 6):
            for most in (source.randint(0, 12), 150):
                coins, end = need(program, f, args, most)
                passed, ended = run_told(program, f, args, coins, most)
                self.assertEqual(ended[0] or ("late",), end)
                self.assertEqual(ran(program, f, args, coins, most), (end,) + ended[1:])
                self.assertIn(end[0], ("gave", "great", "late"))
                if coins > 0:
                    end = run_told(program, f, args, coins - 1, most)[1][0]
                    self.assertEqual(end[0], "short")
                seen[(end[0], coins > 0)] = seen.get((end[0], coins > 0), 0) + 1
        for kind in (("gave", False), ("short", True), ("late", False), ("great", False)):
            self.assertGreater(seen[kind], 1)


class AgainTest(unittest.TestCase):
    def test_asked_again(self):
        for program, f, args in sound_programs(random.Random(15), 40, 5):
            self.assertEqual(ran(program, f, args, 99, 100), ran(program, f, args, 99, 100))
            self.assertEqual(need(program, f, args, 100), need(program, f, list(args), 100))


if __name__ == "__main__":
    unittest.main()
