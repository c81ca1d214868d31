"""Gaps between what papers ask and what runs need: promises 25 and 26, and the third point of 3."""

import random
import unittest

from pursewright.gaps import gap, gaps
from pursewright.inputs import inputs
from pursewright.least import least
from pursewright.needs import need
from pursewright.papers import asks, checked
from pursewright.reader import read
from pursewright.rows import unknowns
from tests.helper import LIST_PROGRAM, run_told, sound_programs, spare_paper

NIL, ONE = ("nil", ()), ("one", ())
TWO = ("two", (ONE,))
ONLY = ("only", ())


def more(first, rest):
    return ("more", (first, rest))


def paper_of(program, parts, numbers):
    """A paper with these numbers for some unknowns, 0 for all others, which is let by."""
    assert set(numbers) <= set(unknowns(program))
    paper = (parts, tuple(numbers.get(unknown, 0) for unknown in unknowns(program)))
    assert checked(program, paper)
    return paper


COPY = paper_of(LIST_PROGRAM, 1, {("param", 0, 0, "more"): 2, ("piece", 0, 0, "more"): 2})
DEAR = paper_of(LIST_PROGRAM, 3, {("param", 0, 0, "more"): 7, ("piece", 0, 0, "more"): 7, ("first", 0): 4,
                                  ("last", 0): 4, ("param", 0, 0, "two"): 1, ("piece", 0, 0, "two"): 1,
                                  ("first", 2): 5})
LOOP = read("kind lone only\ndef f x lone to lone : pay 3 ; get 2 ; get 1 ; let y call f x ; give y")
GROW = read("kind num z | s num\ndef f x num to num : case x z : give x"
            " | s a : pay 1 ; let y make s x ; get 1 ; let w call f y ; give w end")


def need_told(program, f, args, most):
    """The least coins with which a run told anew isn't short, found by halves."""
    low, high = -1, 10**11
    while high - low > 1:
        middle = (low + high) // 2
        end = run_told(program, f, args, middle, most)[1][0]
        low, high = (middle, high) if end is not None and end[0] == "short" else (low, middle)
    return high


class GapTest(unittest.TestCase):
    def test_a_paper_without_a_gap(self):
        for value in (NIL, more(ONE, NIL), more(TWO, more(ONE, NIL))):
            self.assertEqual(gap(LIST_PROGRAM, COPY, 0, (value,), 100), 0)
            self.assertEqual(gap(LIST_PROGRAM, COPY, 0, [value], 100), 0)

    def test_a_dearer_paper(self):
        self.assertEqual(gap(LIST_PROGRAM, DEAR, 0, (NIL,), 100), 4)
        self.assertEqual(gap(LIST_PROGRAM, DEAR, 0, (more(ONE, NIL),), 100), 5)
        self.assertEqual(gap(LIST_PROGRAM, DEAR, 0, (more(TWO, more(TWO, NIL)),), 100), 8)
        self.assertEqual(gap(LIST_PROGRAM, DEAR, 2, (), 100), 5)

    def test_runs_that_end_late(self):
        value = more(ONE, more(ONE, NIL))
        told = [gap(LIST_PROGRAM, DEAR, 0, (value,), most) for most in (0, 1, 2, 4, 5, 6, 100)]
        self.assertEqual(told, [18, 18, 12, 12, 6, 6, 6])
        paper = paper_of(LOOP, 2, {("first", 0): 7})
        self.assertEqual([gap(LOOP, paper, 0, (ONLY,), most) for most in (0, 1, 5, 2000)], [7, 1, 1, 1])

    def test_runs_that_end_great(self):
        paper = paper_of(GROW, 5, {("param", 0, 0, "s"): 0, ("first", 0): 5})
        self.assertEqual(need(GROW, 0, (("s", (("z", ()),)),), 2000)[1], ("great", "s"))
        self.assertEqual(gap(GROW, paper, 0, (("s", (("z", ()),)),), 2000), 0)
        self.assertEqual(gap(GROW, paper, 0, (("z", ()),), 2000), 5)

    def test_by_chance_told_anew(self):
        source = random.Random(39)
        seen = {}
        for program, f, args in sound_programs(source, 150, 6):
            paper = spare_paper(source, program)
            if paper is None:
                continue
            most = source.choice((0, 3, 10, 100))
            told = gap(program, paper, f, args, most)
            self.assertIs(type(told), int)
            self.assertEqual(told, asks(program, paper, f, args) - paper[0] * need_told(program, f, args, most))
            self.assertGreaterEqual(told, 0)
            seen[told > 0] = seen.get(told > 0, 0) + 1
        self.assertGreater(min(seen.values()), 10)


class GapsTest(unittest.TestCase):
    def test_sizes_without_inputs(self):
        # A list has an odd number of makers where its things are all one, and none of these has two.
        self.assertEqual(gaps(LIST_PROGRAM, COPY, 0, 3, 100), [None, (0, (NIL,)), None, (0, (more(ONE, NIL),))])

    def test_size_nought(self):
        self.assertEqual(gaps(LIST_PROGRAM, COPY, 0, 0, 100), [None])
        self.assertEqual(gaps(LIST_PROGRAM, DEAR, 2, 0, 100), [(5, ())])

    def test_functions_without_params(self):
        self.assertEqual(gaps(LIST_PROGRAM, DEAR, 2, 3, 100), [(5, ()), None, None, None])

    def test_the_least_gap(self):
        # Of five makers: two things of one maker each, or one thing of three.
        two, long = more(ONE, more(ONE, NIL)), more(("two", (TWO,)), NIL)
        self.assertEqual([gap(LIST_PROGRAM, DEAR, 0, (value,), 100) for value in (two, long)], [6, 7])
        self.assertEqual(gaps(LIST_PROGRAM, DEAR, 0, 5, 100)[5], (6, (two,)))

    def test_the_first_args_that_have_it(self):
        two, long = more(ONE, more(ONE, NIL)), more(("two", (TWO,)), NIL)
        self.assertEqual(gaps(LIST_PROGRAM, COPY, 0, 5, 100)[5], (0, (two,)))
        self.assertEqual(inputs(LIST_PROGRAM[0], ("list",), 5), [(two,), (long,)])
        program = read("kind bit off | on\ndef f x bit y bit to bit :"
                       " case x off : give y | on : case y off : pay 2 ; give x | on : pay 2 ; give y end end")
        paper = paper_of(program, 1, {("first", 0): 2})
        off, on = ("off", ()), ("on", ())
        self.assertEqual([gap(program, paper, 0, args, 9) for args in inputs(program[0], ("bit", "bit"), 2)], [2, 2, 0, 0])
        self.assertEqual(gaps(program, paper, 0, 3, 9), [None, None, (0, (on, off)), None])

    def test_steps_count(self):
        self.assertEqual(gaps(LIST_PROGRAM, COPY, 0, 3, 0), [None, (0, (NIL,)), None, (2, (more(ONE, NIL),))])
        self.assertEqual(gaps(LIST_PROGRAM, COPY, 0, 3, 1)[3], (2, (more(ONE, NIL),)))
        self.assertEqual(gaps(LIST_PROGRAM, COPY, 0, 3, 2)[3], (0, (more(ONE, NIL),)))

    def test_runs_that_end_late_and_great(self):
        paper = paper_of(LOOP, 2, {("first", 0): 7})
        self.assertEqual(gaps(LOOP, paper, 0, 2, 500), [None, (1, (ONLY,)), None])
        paper = paper_of(GROW, 5, {("first", 0): 5})
        told = gaps(GROW, paper, 0, 3, 2000)
        self.assertEqual([pair and pair[0] for pair in told], [None, 5, 0, 0])

    def test_a_copy_of_ten(self):
        told = gaps(LIST_PROGRAM, COPY, 0, 10, 1000)
        self.assertEqual([pair and pair[0] for pair in told], [None, 0, None] + [0] * 8)
        for size, pair in enumerate(told):
            if pair:
                self.assertEqual(pair[1], inputs(LIST_PROGRAM[0], ("list",), size)[0])

    def test_by_chance_told_anew(self):
        source = random.Random(40)
        seen = {}
        for program, f, args in sound_programs(source, 150, 5):
            paper = spare_paper(source, program)
            some = tuple(kind for name, kind in program[1][f][1])
            options = [inputs(program[0], some, size) for size in range(6)]
            if paper is None or max(len(one) for one in options) > 60:
                continue
            told = gaps(program, paper, f, 5, 60)
            self.assertEqual(len(told), 6)
            for pair, one in zip(told, options):
                gap_of = [asks(program, paper, f, args) - paper[0] * need_told(program, f, args, 60) for args in one]
                due = (min(gap_of), one[gap_of.index(min(gap_of))]) if one else None
                self.assertEqual(pair, due)
                if pair:
                    self.assertGreaterEqual(pair[0], 0)
                kind = pair and (pair[0] > 0, len(set(gap_of)) > 1)
                seen[kind] = seen.get(kind, 0) + 1
        self.assertGreater(seen[None], 10)
        self.assertGreater(min(seen[(more, unlike)] for more in (True, False) for unlike in (True, False)), 3)

    def test_of_least_papers(self):
        told = least(LIST_PROGRAM, 0, (0, 0, 0, 1, 1))
        self.assertEqual([pair and pair[0] for pair in gaps(LIST_PROGRAM, told[2], 0, 5, 100)], [None, 0, None, 0, 0, 0])

    def test_a_list_of_the_askers_own(self):
        told = gaps(LIST_PROGRAM, COPY, 0, 5, 100)
        self.assertIs(type(told), list)
        self.assertEqual({type(pair) for pair in told}, {tuple, type(None)})
        kept = list(told)
        told.clear()
        self.assertEqual(gaps(LIST_PROGRAM, COPY, 0, 5, 100), kept)


if __name__ == "__main__":
    unittest.main()
