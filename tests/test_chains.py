"""Chained functions and functions over each thing of a list: the programs of promises 29 and 30."""

import random
import unittest

from pursewright.chains import chained, over
from pursewright.needs import ran
from pursewright.places import pieces
from pursewright.reader import read
from pursewright.sound import look
from pursewright.writer import shown
from tests.helper import LIST_PROGRAM, run_told, sound_programs

KINDS = "kind item one | two item\nkind list nil | more item list\n"
PROGRAM = read(
    KINDS
    + "def up x item to item : pay 2 ; let y make two x ; give y\n"
    "def lift x item to list : let e make nil ; let y make more x e ; get 1 ; give y\n"
    "def fresh to item : let e make one ; pay 1 ; give e\n"
    "def four a item b list c item d item to item : pay 4 ; give c\n"
    "def drop x list to item : case x nil : pay 9 ; let e make one ; give e | more a b : give a end"
)
UP, LIFT, FRESH, FOUR, DROP = range(5)
NIL, ONE = ("nil", ()), ("one", ())
TWO = ("two", (ONE,))
NAMES = ("inlist", "inend", "inmore", "outlist", "outend", "outmore", "overall")


def number_of(name):
    """So many twos around a one."""
    value = ONE
    for times in range(name):
        value = ("two", (value,))
    return value


def list_of(end, more, values):
    told = (end, ())
    for value in reversed(values):
        told = (more, (value, told))
    return told


class ChainedTest(unittest.TestCase):
    def chain(self, program, f, g, name):
        told = chained(program, f, g, name)
        self.assertIs(look(told), True)
        self.assertEqual((told[0], told[1][:-1]), (program[0], program[1]))
        own, params, kind, body = told[1][-1]
        self.assertEqual((own, kind), (name, program[1][g][2]))
        self.assertEqual([of for param, of in params], [of for param, of in program[1][f][1]])
        first, second, last = pieces(body)
        names = tuple(param for param, of in params)
        self.assertEqual((first[0], first[2:4]), ("call", (program[1][f][0], names)))
        self.assertEqual((second[0], second[2:4]), ("call", (program[1][g][0], (first[1],))))
        self.assertEqual(last, ("give", second[1]))
        self.assertEqual(read(shown(told)), told)
        return told

    def run_both(self, program, f, g, name, args, coins):
        """A run of the chain, held against one of f and then one of g."""
        told = self.chain(program, f, g, name)
        first, purse, steps = ran(program, f, args, coins, 2000)
        if first[0] == "gave":
            due = ran(program, g, (first[1],), purse, 2000)
            # Two calls, and the give where it comes to it.
            due = due[:2] + (steps + due[2] + 2 + (due[0][0] == "gave"),)
        else:
            due = (first, purse, steps + 1)
        if due[0] == ("late",):
            return "late"
        self.assertEqual(ran(told, len(program[1]), args, coins, 5000), due)
        return due[0][0]

    def test_unlike_functions(self):
        self.assertEqual(self.run_both(PROGRAM, UP, LIFT, "both", (ONE,), 2), "gave")
        self.assertEqual(self.run_both(PROGRAM, LIFT, DROP, "both", (TWO,), 0), "gave")
        self.assertEqual(self.run_both(PROGRAM, DROP, UP, "both", (NIL,), 10), "short")
        self.assertEqual(self.run_both(PROGRAM, DROP, UP, "both", (NIL,), 8), "short")
        told = chained(PROGRAM, UP, LIFT, "both")
        self.assertEqual(ran(told, 5, (ONE,), 2, 100), (("gave", ("more", (TWO, NIL))), 1, 10))

    def test_alike_functions(self):
        self.assertEqual(self.run_both(PROGRAM, UP, UP, "twice", (ONE,), 4), "gave")
        self.assertEqual(self.run_both(PROGRAM, UP, UP, "twice", (ONE,), 3), "short")
        self.assertEqual(self.run_both(PROGRAM, UP, UP, "twice", (ONE,), 1), "short")
        self.assertEqual(ran(chained(PROGRAM, UP, UP, "twice"), 5, [ONE], 7, 100)[:2], (("gave", number_of(2)), 3))

    def test_without_params_and_with_four(self):
        self.assertEqual(self.run_both(PROGRAM, FRESH, UP, "made", (), 3), "gave")
        self.assertEqual(chained(PROGRAM, FRESH, UP, "made")[1][-1][1], ())
        self.assertEqual(self.run_both(PROGRAM, FOUR, LIFT, "long", (ONE, NIL, TWO, ONE), 4), "gave")

    def test_params_names_like_those_that_are_bound(self):
        for names in ("abcd", "bade", "xyzw", "rgpq"):
            params = " ".join(f"{name} item" for name in names)
            program = read(KINDS + f"def f {params} to item : give {names[1]}\ndef g a item to item : give a")
            self.assertEqual(self.run_both(program, 0, 1, "h", (ONE, TWO, ONE, ONE), 0), "gave")

    def test_names_of_kinds_and_makers(self):
        for name in ("item", "list", "one", "more", "x", "a"):
            self.chain(PROGRAM, UP, UP, name)

    def test_chains_of_chains(self):
        program = self.chain(PROGRAM, UP, UP, "twice")
        program = self.chain(program, 5, 5, "quad")
        program = self.chain(program, 6, LIFT, "last")
        self.assertEqual(ran(program, 7, (ONE,), 8, 200)[:2], (("gave", ("more", (number_of(4), NIL))), 1))

    def test_by_chance(self):
        source = random.Random(47)
        ends = {}
        for program, f, args in sound_programs(source, 400, 5):
            fit = [g for g, one in enumerate(program[1]) if len(one[1]) == 1 and one[1][0][1] == program[1][f][2]]
            for g in fit:
                if run_told(program, f, args, 10**9, 300)[1][0]:
                    end = self.run_both(program, f, g, "newone", args, source.choice((0, 10, 10**9)))
                    ends[end] = ends.get(end, 0) + 1
        self.assertGreater(min(ends["gave"], ends["short"]), 5)

    def test_asked_again(self):
        kept = shown(PROGRAM)
        self.assertEqual(chained(PROGRAM, UP, UP, "twice"), chained(PROGRAM, UP, UP, "twice"))
        self.assertEqual(over(PROGRAM, UP, list(NAMES)), over(PROGRAM, UP, NAMES))
        self.assertEqual(shown(PROGRAM), kept)


class OverTest(unittest.TestCase):
    def lay_over(self, program, f, names):
        told = over(program, f, names)
        self.assertIs(look(told), True)
        takes, gives = program[1][f][1][0][1], program[1][f][2]
        self.assertEqual(told[0][:-2], program[0])
        self.assertEqual(told[0][-2:], (
            (names[0], ((names[1], ()), (names[2], (takes, names[0])))),
            (names[3], ((names[4], ()), (names[5], (gives, names[3]))))))
        self.assertEqual(told[1][:-1], program[1])
        own, params, kind, body = told[1][-1]
        self.assertEqual((own, [of for param, of in params], kind), (names[6], [names[0]], names[3]))
        self.look_at_pieces(program, f, names, params[0][0], pieces(body))
        self.assertEqual(read(shown(told)), told)
        return told

    def look_at_pieces(self, program, f, names, param, told):
        self.assertEqual([piece[0] for piece in told], ["case", "make", "give", "call", "call", "make", "give"])
        self.assertEqual(told[0][1], param)
        (empty, none, inner), (more, (thing, rest), other) = told[0][2]
        self.assertEqual((empty, none, more), (names[1], (), names[2]))
        self.assertEqual((told[1][2:4], told[2]), ((names[4], ()), ("give", told[1][1])))
        self.assertEqual(told[3][2:4], (program[1][f][0], (thing,)))
        self.assertEqual(told[4][2:4], (names[6], (rest,)))
        self.assertEqual((told[5][2:4], told[6]), ((names[5], (told[3][1], told[4][1])), ("give", told[5][1])))

    def run_over(self, program, f, names, values, coins):
        """A run over a list, held against runs of each thing, one behind the other."""
        told = self.lay_over(program, f, names)
        end, purse, steps = ran(told, len(program[1]), (list_of(names[1], names[2], values),), coins, 5000)
        gave, left = [], coins
        for value in values:
            one, left, many = ran(program, f, (value,), left, 2000)
            if one[0] == "late":
                return "late"
            if one[0] != "gave":
                self.assertEqual((end, purse), (one, left))
                return one[0]
            gave.append(one[1])
        self.assertEqual((end, purse), (("gave", list_of(names[4], names[5], gave)), left))
        return "gave"

    def test_lists_of_none_one_and_several(self):
        for values in ([], [ONE], [ONE, TWO, number_of(5)]):
            self.assertEqual(self.run_over(PROGRAM, UP, NAMES, values, 6), "gave")
        self.assertEqual(self.run_over(PROGRAM, UP, NAMES, [ONE, TWO, ONE], 5), "short")
        self.assertEqual(self.run_over(PROGRAM, UP, NAMES, [ONE, TWO, ONE], 1), "short")

    def test_of_another_kind(self):
        for values in ([], [ONE], [TWO, ONE]):
            self.assertEqual(self.run_over(PROGRAM, LIFT, NAMES, values, 0), "gave")
        for values in ([], [NIL], [("more", (ONE, NIL)), NIL]):
            self.assertEqual(self.run_over(PROGRAM, DROP, NAMES, values, 9), "gave")
        self.assertEqual(self.run_over(PROGRAM, DROP, NAMES, [NIL, NIL], 9), "short")

    def test_names_as_a_list(self):
        self.assertEqual(over(PROGRAM, UP, list(NAMES)), self.lay_over(PROGRAM, UP, NAMES))

    def test_names_of_other_things(self):
        # Kinds like makers and functions, makers like kinds and functions, the function like kinds and makers.
        self.lay_over(PROGRAM, UP, ("up", "item", "list", "one", "up", "four", "item"))
        self.lay_over(PROGRAM, UP, ("a", "x", "y", "b", "c", "d", "x"))
        self.lay_over(PROGRAM, UP, ("p", "p", "q", "q", "r", "s", "p"))
        self.assertEqual(self.run_over(PROGRAM, UP, ("p", "p", "q", "q", "r", "s", "p"), [ONE, ONE], 9), "gave")

    def test_over_what_is_over(self):
        program = self.lay_over(PROGRAM, UP, NAMES)
        deeper = ("la", "lb", "lc", "ld", "le", "lf", "lg")
        values = [list_of("inend", "inmore", [ONE, TWO]), list_of("inend", "inmore", [])]
        self.assertEqual(self.run_over(program, 5, deeper, values, 4), "gave")

    def test_by_chance(self):
        source = random.Random(48)
        ends = {}
        for program, f, args in sound_programs(source, 800, 5):
            if len(args) == 1:
                end = self.run_over(program, f, NAMES, [args[0]] * source.randint(0, 2), source.choice((0, 0, 10, 10**9)))
                ends[end] = ends.get(end, 0) + 1
        self.assertGreater(min(ends["gave"], ends["short"]), 5)

    def test_names_handed_in_are_not_changed(self):
        names = list(NAMES)
        told = over(LIST_PROGRAM, 1, names)
        names[0] = "other"
        self.assertEqual(told[0][-2][0], "inlist")
        self.assertEqual(names[1:], list(NAMES[1:]))


if __name__ == "__main__":
    unittest.main()
