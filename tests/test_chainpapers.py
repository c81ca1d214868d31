"""Papers of chained functions and of functions over each thing: the papers of promises 29 and 30."""

import random
import unittest

from pursewright.chainpapers import chained_paper, over_paper
from pursewright.chains import chained, over
from pursewright.errors import NoChain, NoPaper, NoTurn, PurseError
from pursewright.kinds import within
from pursewright.least import least
from pursewright.papers import asks, checked, tells
from pursewright.reader import read
from pursewright.rows import unknowns
from tests.helper import LIST_PROGRAM, paper_by_chance, run_told, sound_programs, spare_paper

KINDS = "kind item one | two item\nkind list nil | more item list\n"
SAME = read(KINDS + "def f x item to item : give x\ndef g x item to item : give x\ndef h x list to item :"
            " let e make one ; give e\ndef k x item to list : let e make nil ; give e")
NAMES = ("inlist", "inend", "inmore", "outlist", "outend", "outmore", "overall")


def paper_of(program, parts, numbers):
    """A paper with these numbers for some unknowns, 0 for all others, which is let by."""
    assert set(numbers) <= set(unknowns(program))
    paper = (parts, tuple(numbers.get(unknown, 0) for unknown in unknowns(program)))
    assert checked(program, paper)
    return paper


def with_results(results, params, ends=(0, 0, 0, 0)):
    """A paper for SAME: result weights of f and param weights of g by makers; f's first and last, g's first and last."""
    numbers = {}
    for maker in ("one", "two"):
        numbers[("param", 0, 0, maker)] = numbers[("result", 0, maker)] = results.get(maker, 0)
        numbers[("param", 1, 0, maker)] = params.get(maker, 0)
    for unknown, number in zip((("first", 0), ("last", 0), ("first", 1), ("last", 1)), ends):
        numbers[unknown] = number
    return paper_of(SAME, 5, numbers)


class PaperCase(unittest.TestCase):
    def look_at(self, program, longer, paper, told):
        """Let by, with as many parts and the same numbers for all that was there; tells the prices."""
        self.assertEqual([type(told), type(told[0]), type(told[1])], [tuple, int, tuple])
        self.assertEqual({type(number) for number in told[1]}, {int})
        self.assertEqual(told[0], paper[0])
        self.assertEqual(told[1][: len(paper[1])], paper[1])
        self.assertEqual(unknowns(longer)[: len(paper[1])], unknowns(program))
        self.assertEqual(len(told[1]), len(unknowns(longer)))
        self.assertIs(checked(longer, told), True)
        return dict(zip(unknowns(longer), told[1]))


class ChainedPaperTest(PaperCase):
    def chain(self, program, f, g, paper):
        told = chained_paper(program, f, g, paper)
        h = len(program[1])
        prices = self.look_at(program, chained(program, f, g, "newone"), paper, told)
        for unknown in prices:
            if unknown[:2] == ("param", h):
                self.assertEqual(prices[unknown], prices[("param", f) + unknown[2:]])
            if unknown[:2] == ("result", h):
                self.assertEqual(prices[unknown], prices[("result", g) + unknown[2:]])
        first = [prices[("first", one)] for one in (f, g, h)]
        last = [prices[("last", one)] for one in (f, g, h)]
        self.assertEqual(first[2], max(first[0], first[0] - last[0] + first[1]))
        self.assertEqual(last[2], first[2] - first[0] + last[0] - first[1] + last[1])
        return first[2], last[2]

    def refused(self, program, f, g, paper, maker):
        with self.assertRaises(NoChain) as caught:
            chained_paper(program, f, g, paper)
        self.assertEqual(caught.exception.maker, maker)
        self.assertIsInstance(caught.exception, PurseError)
        self.assertNotIsInstance(caught.exception, (NoTurn, NoPaper))

    def test_result_weights_just_as_great_and_greater(self):
        for results in ({}, {"one": 3}, {"two": 4}, {"one": 3, "two": 4}, {"one": 100, "two": 100}):
            for params in ({}, {"one": 3}, {"one": 3, "two": 4}, {"two": 4}):
                paper = with_results(results, params)
                less = [maker for maker in ("one", "two") if results.get(maker, 0) < params.get(maker, 0)]
                if less:
                    self.refused(SAME, 0, 1, paper, less[0])
                else:
                    self.assertEqual(self.chain(SAME, 0, 1, paper), (0, 0))

    def test_one_maker_less(self):
        self.refused(SAME, 0, 1, with_results({"one": 3, "two": 4}, {"one": 4, "two": 4}), "one")
        self.refused(SAME, 0, 1, with_results({"one": 3, "two": 4}, {"one": 3, "two": 5}), "two")
        self.refused(SAME, 0, 1, with_results({"one": 9, "two": 4}, {"one": 3, "two": 5}), "two")

    def test_several_makers_less_the_first_one(self):
        self.refused(SAME, 0, 1, with_results({}, {"one": 1, "two": 1}), "one")
        program = read("kind zoo far ape | near\nkind ape big zoo | small\ndef f x ape to zoo : let e make near ; give e\n"
                       "def g x zoo to zoo : give x")
        # The makers in the program's order, not in that of the kind that is given or of names.
        for less in (("small", "big"), ("near", "big"), ("big", "far", "near"), ("small",)):
            paper = paper_of(program, 1, {("param", 1, 0, maker): 1 for maker in less})
            due = [maker for maker in ("far", "near", "big", "small") if maker in less][0]
            self.refused(program, 0, 1, paper, due)

    def test_last_of_f_more_and_less_than_first_of_g(self):
        for ends, due in (((7, 5, 3, 2), (7, 4)), ((7, 5, 5, 2), (7, 2)), ((7, 5, 9, 2), (11, 2)), ((7, 0, 0, 0), (7, 0)),
                          ((0, 0, 6, 6), (6, 6)), ((4, 4, 4, 4), (4, 4)), ((10**12, 0, 10**12, 1), (2 * 10**12, 1))):
            self.assertEqual(self.chain(SAME, 0, 1, with_results({}, {}, ends)), due)

    def test_weights_and_refusals_ahead_of_coins(self):
        self.refused(SAME, 0, 1, with_results({}, {"two": 1}, (7, 5, 9, 2)), "two")
        self.assertEqual(self.chain(SAME, 0, 1, with_results({"two": 2}, {"two": 1}, (7, 5, 9, 2))), (11, 2))

    def test_a_function_with_itself(self):
        self.assertEqual(self.chain(SAME, 0, 0, with_results({"one": 2}, {}, (7, 5, 0, 0))), (9, 5))
        paper = paper_of(SAME, 1, {("param", 0, 0, "one"): 1})
        self.refused(SAME, 0, 0, paper, "one")

    def test_without_params_and_with_four(self):
        program = read(KINDS + "def f to item : pay 2 ; let e make one ; give e\ndef g x item to item : pay 3 ; give x\n"
                       "def h a item b list c item d item to item : get 1 ; give c")
        source = random.Random(49)
        for number in range(5):
            paper = spare_paper(source, program)
            for f in (0, 2):
                try:
                    self.chain(program, f, 1, paper)
                except NoChain:
                    self.assertGreater(sum(paper[1]), 0)
        self.assertEqual(self.chain(program, 0, 1, least(program, 0, (1,))[2])[0], 5)

    def test_least_papers_with_wishes(self):
        # A copy that can be copied once more: what is wished of the first is what the second one asks.
        copy = ("def NAME x list to list : case x nil : let e make nil ; give e"
                " | more a b : pay 2 ; let c call NAME b ; let d make more a c ; give d end")
        program = read(KINDS + copy.replace("NAME", "f") + "\n" + copy.replace("NAME", "g"))
        one, two = least(program, 0, (0, 0, 0, 1, 1)), least(program, 0, (0, 0, 0, 1, 1), (0, 0, 0, 2, 0))
        self.assertEqual([one[1], two[1]], [(2, 1), (4, 1)])
        with_g = least(program, 1, (0, 0, 0, 1, 1))
        numbers = [own if unknown[1] == 0 else other
                   for unknown, own, other in zip(unknowns(program), two[2][1], with_g[2][1])]
        self.assertEqual((two[2][0], with_g[2][0]), (1, 1))
        self.chain(program, 0, 1, (1, tuple(numbers)))

    def test_by_chance(self):
        source = random.Random(50)
        seen = {True: 0, False: 0}
        for program, f, args in sound_programs(source, 500, 5):
            fit = [g for g, one in enumerate(program[1]) if len(one[1]) == 1 and one[1][0][1] == program[1][f][2]]
            paper = source.choice((spare_paper, paper_by_chance))(source, program) if fit else None
            for g in fit if paper else ():
                prices = dict(zip(unknowns(program), paper[1]))
                less = [maker for maker in within(program[0], program[1][f][2])
                        if prices[("result", f, maker)] < prices[("param", g, 0, maker)]]
                seen[bool(less)] += 1
                if less:
                    self.refused(program, f, g, paper, less[0])
                else:
                    self.chain(program, f, g, paper)
                    self.run_chain(program, f, g, paper, args)
        self.assertGreater(min(seen.values()), 10)

    def run_chain(self, program, f, g, paper, args):
        longer, told, h = chained(program, f, g, "newone"), chained_paper(program, f, g, paper), len(program[1])
        coins = -(-asks(longer, told, h, args) // told[0])
        end, purse, steps = run_told(longer, h, args, coins, 200)[1]
        if end is not None:
            self.assertNotEqual(end[0], "short")
            if end[0] == "gave":
                self.assertGreaterEqual(told[0] * purse, tells(longer, told, h, end[1]))

    def test_asked_again(self):
        paper = with_results({"two": 2}, {"two": 1}, (7, 5, 9, 2))
        self.assertEqual(chained_paper(SAME, 0, 1, paper), chained_paper(SAME, 0, 1, paper))
        self.assertEqual(over_paper(SAME, 0, paper), over_paper(SAME, 0, paper))


class OverPaperTest(PaperCase):
    def lay_over(self, program, f, paper, names=NAMES):
        longer = over(program, f, names)
        prices = self.look_at(program, longer, paper, over_paper(program, f, paper))
        h = len(program[1])
        self.assertEqual((prices[("first", h)], prices[("last", h)]), (0, 0))
        takes, gives = program[1][f][1][0][1], program[1][f][2]
        due = {("param", h, 0, maker): prices[("param", f, 0, maker)] for maker in within(program[0], takes)}
        due.update({("param", h, 0, names[1]): 0, ("param", h, 0, names[2]): prices[("first", f)]})
        due.update({("result", h, maker): prices[("result", f, maker)] for maker in within(program[0], gives)})
        due.update({("result", h, names[4]): 0, ("result", h, names[5]): prices[("last", f)]})
        told = {unknown: number for unknown, number in prices.items() if unknown[:2] in (("param", h), ("result", h))}
        self.assertEqual(told, due)
        return prices

    def test_each_number(self):
        program = read(KINDS + "def f x item to list : pay 2 ; let e make nil ; let y make more x e ; give y")
        paper = paper_of(program, 3, {("param", 0, 0, "one"): 10, ("param", 0, 0, "two"): 20, ("first", 0): 5000,
                                      ("result", 0, "one"): 4, ("result", 0, "two"): 5, ("result", 0, "nil"): 6,
                                      ("result", 0, "more"): 7, ("last", 0): 800, ("piece", 0, 1, "nil"): 13,
                                      ("piece", 0, 1, "more"): 7, ("piece", 0, 1, "one"): 4, ("piece", 0, 1, "two"): 5,
                                      ("piece", 0, 2, "one"): 4, ("piece", 0, 2, "two"): 5, ("piece", 0, 2, "nil"): 6,
                                      ("piece", 0, 2, "more"): 7})
        prices = self.lay_over(program, 0, paper)
        self.assertEqual([prices[("param", 1, 0, maker)] for maker in ("one", "two", "inend", "inmore")], [10, 20, 0, 5000])
        makers = ("one", "two", "nil", "more", "outend", "outmore")
        self.assertEqual([prices[("result", 1, maker)] for maker in makers], [4, 5, 6, 7, 0, 800])

    def test_of_the_same_kind_and_of_another(self):
        source = random.Random(51)
        for f in range(4):
            for number in range(3):
                self.lay_over(SAME, f, spare_paper(source, SAME))

    def test_a_function_that_calls_itself(self):
        source = random.Random(52)
        for number in range(4):
            self.lay_over(LIST_PROGRAM, 0, spare_paper(source, LIST_PROGRAM))
        self.lay_over(LIST_PROGRAM, 0, least(LIST_PROGRAM, 0, (0, 0, 0, 1, 1))[2])

    def test_noughts(self):
        prices = self.lay_over(SAME, 0, (1, (0,) * len(unknowns(SAME))))
        self.assertEqual(set(prices.values()), {0})

    def test_names_of_other_things(self):
        paper = spare_paper(random.Random(53), SAME)
        for names in (("f", "item", "list", "g", "h", "k", "one"), ("p", "p", "q", "q", "r", "s", "p"),
                      ("zzz", "zzz", "aaa", "aaa", "b", "c", "x")):
            self.lay_over(SAME, 0, paper, names)

    def test_over_what_is_over(self):
        paper = spare_paper(random.Random(54), SAME)
        longer, told = over(SAME, 3, NAMES), over_paper(SAME, 3, paper)
        self.lay_over(longer, 4, told, ("la", "lb", "lc", "ld", "le", "lf", "lg"))

    def test_by_chance(self):
        source = random.Random(55)
        seen = 0
        for program, f, args in sound_programs(source, 300, 5):
            paper = source.choice((spare_paper, paper_by_chance))(source, program) if len(args) == 1 else None
            if paper is None:
                continue
            seen += 1
            prices = self.lay_over(program, f, paper)
            self.run_over(program, f, paper, args[0], source.randint(0, 3))
            self.assertGreaterEqual(min(prices.values()), 0)
        self.assertGreater(seen, 50)

    def run_over(self, program, f, paper, value, many):
        longer, told, h = over(program, f, NAMES), over_paper(program, f, paper), len(program[1])
        things = ("inend", ())
        for number in range(many):
            things = ("inmore", (value, things))
        coins = -(-asks(longer, told, h, (things,)) // told[0])
        end, purse, steps = run_told(longer, h, (things,), coins, 200)[1]
        if end is not None:
            self.assertNotEqual(end[0], "short")
            if end[0] == "gave":
                self.assertGreaterEqual(told[0] * purse, tells(longer, told, h, end[1]))


if __name__ == "__main__":
    unittest.main()
