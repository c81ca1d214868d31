"""The unknowns and the rows of a program: promises 15 and 17."""

import random
import unittest

from pursewright.kinds import within
from pursewright.reader import read
from pursewright.rows import rows, unknowns
from tests.helper import LIST_PROGRAM, bound_on, sound_programs, ways, widest_program

KINDS = "kind item one | two item\nkind list nil | more item list\nkind lone only\n"


def unknowns_told(program):
    """Told anew."""
    told = []
    for f, (name, params, kind, body) in enumerate(program[1]):
        for k, (param, of) in enumerate(params):
            told += [("param", f, k, maker) for maker in within(program[0], of)]
        told += [("first", f)] + [("result", f, maker) for maker in within(program[0], kind)] + [("last", f)]
        for way in ways(body):
            number, piece = way[-1][:2]
            kinds = {name: kind for name, kind, source in bound_on(program, f, way)}
            if piece[0] == "make":
                of = [kind for kind, makers in program[0] if piece[2] in [maker for maker, fields in makers]][0]
            elif piece[0] == "name":
                of = kinds[piece[2]]
            elif piece[0] == "case":
                of = kinds[piece[1]]
            else:
                continue
            told += [("piece", f, number, maker) for maker in within(program[0], of)]
    return told


def rows_told(program):
    """Told anew: (why, a dict from unknowns themselves, least)."""
    numbers = {function[0]: g for g, function in enumerate(program[1])}
    told = []
    for f, function in enumerate(program[1]):
        for way in ways(function[3]):
            n, piece = way[-1][:2]
            if piece[0] in ("make", "call", "pay", "give"):
                told.append((("purse", f, n), purse_told(numbers, f, way), coins_told(way)))
            if piece[0] == "give":
                for name, kind, source in bound_on(program, f, way):
                    for maker in within(program[0], kind):
                        told.append((("use", f, n, name, maker), use_told(numbers, f, way, name, maker, source), 0))
    return told


def coins_told(way):
    return sum({"pay": piece[1], "get": -piece[1]}[piece[0]] for n, piece, arm in way if piece[0] in ("pay", "get"))


def purse_told(numbers, f, way):
    terms = [(("first", f), 1)]
    for n, piece, arm in way:
        if piece[0] == "make":
            terms.append((("piece", f, n, piece[2]), -1))
        if piece[0] == "call":
            terms.append((("first", numbers[piece[2]]), -1))
            if n != way[-1][0]:
                terms.append((("last", numbers[piece[2]]), 1))
        if piece[0] == "case":
            terms.append((("piece", f, n, arm[0]), 1))
        if piece[0] == "give":
            terms.append((("last", f), -1))
    return total(terms)


def use_told(numbers, f, way, name, maker, source):
    terms = [(source + (maker,), 1)]
    for n, piece, arm in way:
        own = ("piece", f, n, maker)
        if piece[0] == "make":
            terms += [(own, -1)] * piece[3].count(name)
        elif piece[0] == "call":
            terms += [(("param", numbers[piece[2]], k, maker), -1) for k, used in enumerate(piece[3]) if used == name]
        elif piece[0] == "name" and piece[2] == name or piece[0] == "case" and piece[1] == name:
            terms.append((own, -1))
        elif piece[0] == "give" and piece[1] == name:
            terms.append((("result", f, maker), -1))
    return total(terms)


def total(terms):
    return {unknown: sum(times for other, times in terms if other == unknown) for unknown, _ in terms
            if sum(times for other, times in terms if other == unknown) != 0}


def by_unknowns(program):
    """The rows with unknowns in the place of their numbers."""
    names = unknowns(program)
    return [(why, {names[place]: weight for place, weight in weights.items()}, least)
            for why, weights, least in rows(program)]


class UnknownsTest(unittest.TestCase):
    def test_no_functions(self):
        self.assertEqual(unknowns(((), ())), [])
        self.assertEqual(unknowns(read("kind a b")), [])

    def test_a_list_program(self):
        item, both = ("one", "two"), ("one", "two", "nil", "more")
        due = [("param", 0, 0, maker) for maker in both] + [("first", 0)]
        due += [("result", 0, maker) for maker in both] + [("last", 0)]
        due += [("piece", 0, n, maker) for n in (0, 1, 5) for maker in both]
        due += [("param", 1, 0, maker) for maker in item] + [("first", 1)]
        due += [("result", 1, maker) for maker in item] + [("last", 1)]
        due += [("piece", 1, 0, maker) for maker in item]
        due += [("first", 2)] + [("result", 2, maker) for maker in both] + [("last", 2)]
        due += [("piece", 2, 0, maker) for maker in both]
        self.assertEqual(unknowns(LIST_PROGRAM), due)

    def test_kinds_that_go_round_and_kinds_that_can_not_be_come_to(self):
        program = read("kind a one b | two\nkind b nil | more a b\nkind c lone | far a\n"
                       "def f x a y c z b to c : let q name x ; let w make far q ; give w\n"
                       "def g to b : get 1 ; let m make nil ; pay 1 ; give m")
        ring, all_makers = ("one", "two", "nil", "more"), ("one", "two", "nil", "more", "lone", "far")
        due = [("param", 0, 0, maker) for maker in ring] + [("param", 0, 1, maker) for maker in all_makers]
        due += [("param", 0, 2, maker) for maker in ring] + [("first", 0)]
        due += [("result", 0, maker) for maker in all_makers] + [("last", 0)]
        due += [("piece", 0, 0, maker) for maker in ring] + [("piece", 0, 1, maker) for maker in all_makers]
        due += [("first", 1)] + [("result", 1, maker) for maker in ring] + [("last", 1)]
        due += [("piece", 1, 1, maker) for maker in ring]
        self.assertEqual(unknowns(program), due)

    def test_by_chance_told_anew(self):
        for program, f, args in sound_programs(random.Random(18), 200, 4):
            self.assertEqual(unknowns(program), unknowns_told(program))

    def test_the_widest(self):
        program = widest_program()
        self.assertEqual(unknowns(program), unknowns_told(program))
        self.assertEqual(by_unknowns(program), rows_told(program))

    def test_a_list_of_the_askers_own(self):
        told = unknowns(LIST_PROGRAM)
        self.assertIs(type(told), list)
        self.assertEqual({type(one) for one in told}, {tuple})
        kept = list(told)
        told.clear()
        self.assertEqual(unknowns(LIST_PROGRAM), kept)


class RowsTest(unittest.TestCase):
    def rows_of(self, text):
        return by_unknowns(read(KINDS + text))

    def test_no_functions(self):
        self.assertEqual(rows(((), ())), [])
        self.assertEqual(rows(read("kind a b")), [])

    def test_a_give_alone(self):
        self.assertEqual(rows(read(KINDS + "def f x lone to lone : give x")),
                         [(("purse", 0, 0), {1: 1, 3: -1}, 0), (("use", 0, 0, "x", "only"), {0: 1, 2: -1}, 0)])

    def test_pays_and_gets(self):
        told = self.rows_of("def f x lone to lone : pay 5 ; get 9 ; pay 7 ; get 1 ; give x")
        first, last = ("first", 0), ("last", 0)
        self.assertEqual(told[:3], [(("purse", 0, 0), {first: 1}, 5), (("purse", 0, 2), {first: 1}, 3),
                                    (("purse", 0, 4), {first: 1, last: -1}, 2)])
        self.assertEqual([row[0][0] for row in told], ["purse"] * 3 + ["use"])

    def test_a_make(self):
        told = self.rows_of("def f x item y list to list : let z make more x y ; give z")
        first, last, made = ("first", 0), ("last", 0), ("piece", 0, 0, "more")
        self.assertEqual(told[0], (("purse", 0, 0), {first: 1, made: -1}, 0))
        self.assertEqual(told[1], (("purse", 0, 1), {first: 1, made: -1, last: -1}, 0))
        self.assertEqual([row[0] for row in told[2:]],
                         [("use", 0, 1, "x", m) for m in ("one", "two")]
                         + [("use", 0, 1, name, m) for name in ("y", "z") for m in ("one", "two", "nil", "more")])
        uses = {row[0][3:]: row[1] for row in told[2:]}
        self.assertEqual(uses[("x", "two")], {("param", 0, 0, "two"): 1, ("piece", 0, 0, "two"): -1})
        self.assertEqual(uses[("y", "more")], {("param", 0, 1, "more"): 1, ("piece", 0, 0, "more"): -1})
        self.assertEqual(uses[("z", "more")], {("piece", 0, 0, "more"): 1, ("result", 0, "more"): -1})

    def test_a_name_used_twice_and_one_never_used(self):
        told = self.rows_of("kind pair both item item\ndef f x item y item to pair : let z make both x x ; give z")
        uses = {row[0][3:]: row[1] for row in told if row[0][0] == "use"}
        self.assertEqual(uses[("x", "one")], {("param", 0, 0, "one"): 1, ("piece", 0, 0, "one"): -2})
        self.assertEqual(uses[("y", "one")], {("param", 0, 1, "one"): 1})
        self.assertEqual(uses[("z", "both")], {("piece", 0, 0, "both"): 1, ("result", 0, "both"): -1})

    def test_a_name_piece(self):
        told = self.rows_of("def f x lone to lone : let y name x ; let z name x ; give y")
        self.assertEqual(told, [
            (("purse", 0, 2), {("first", 0): 1, ("last", 0): -1}, 0),
            (("use", 0, 2, "x", "only"),
             {("param", 0, 0, "only"): 1, ("piece", 0, 0, "only"): -1, ("piece", 0, 1, "only"): -1}, 0),
            (("use", 0, 2, "y", "only"), {("piece", 0, 0, "only"): 1, ("result", 0, "only"): -1}, 0),
            (("use", 0, 2, "z", "only"), {("piece", 0, 1, "only"): 1}, 0),
        ])

    def test_calls(self):
        told = self.rows_of("def f x lone to lone : let y call g x x ; let z call g y x ; let w call f z ; give w\n"
                            "def g a lone b lone to lone : give a")
        purses = [row for row in told if row[0][:2] == ("purse", 0)]
        # Its own first is taken again by the call of itself.
        self.assertEqual(purses, [
            (("purse", 0, 0), {("first", 0): 1, ("first", 1): -1}, 0),
            (("purse", 0, 1), {("first", 0): 1, ("first", 1): -2, ("last", 1): 1}, 0),
            (("purse", 0, 2), {("first", 1): -2, ("last", 1): 2}, 0),
            (("purse", 0, 3), {("first", 1): -2, ("last", 1): 2}, 0),
        ])
        uses = {row[0][1:]: row[1] for row in told if row[0][0] == "use"}
        self.assertEqual(uses[(0, 3, "x", "only")],
                         {("param", 0, 0, "only"): 1, ("param", 1, 0, "only"): -1, ("param", 1, 1, "only"): -2})
        self.assertEqual(uses[(0, 3, "y", "only")], {("result", 1, "only"): 1, ("param", 1, 0, "only"): -1})
        self.assertEqual(uses[(0, 3, "z", "only")], {("result", 1, "only"): 1, ("param", 0, 0, "only"): -1})
        # What a call of itself gives is given on: nothing is left of the row.
        self.assertEqual(uses[(0, 3, "w", "only")], {})
        self.assertEqual(uses[(1, 0, "b", "only")], {("param", 1, 1, "only"): 1})

    def test_rows_without_weights(self):
        told = self.rows_of("def f x lone to lone : pay 4 ; let y call f x ; give y")
        self.assertEqual(told, [
            (("purse", 0, 0), {("first", 0): 1}, 4),
            (("purse", 0, 1), {}, 4),
            (("purse", 0, 2), {}, 4),
            (("use", 0, 2, "x", "only"), {}, 0),
            (("use", 0, 2, "y", "only"), {}, 0),
        ])

    def test_cases(self):
        told = self.rows_of("def f x item to item : case x one : pay 2 ; give x | two a : let y make two a ; give y end")
        first, last = ("first", 0), ("last", 0)
        arms = [("piece", 0, 0, maker) for maker in ("one", "two")]
        made = ("piece", 0, 3, "two")
        self.assertEqual([row for row in told if row[0][0] == "purse"], [
            (("purse", 0, 1), {first: 1, arms[0]: 1}, 2),
            (("purse", 0, 2), {first: 1, arms[0]: 1, last: -1}, 2),
            (("purse", 0, 3), {first: 1, arms[1]: 1, made: -1}, 0),
            (("purse", 0, 4), {first: 1, arms[1]: 1, made: -1, last: -1}, 0),
        ])
        uses = {row[0][2:]: row[1] for row in told if row[0][0] == "use"}
        self.assertEqual(uses[(2, "x", "two")], {("param", 0, 0, "two"): 1, arms[1]: -1, ("result", 0, "two"): -1})
        self.assertEqual(uses[(4, "x", "two")], {("param", 0, 0, "two"): 1, arms[1]: -1})
        self.assertEqual(uses[(4, "a", "two")], {arms[1]: 1, made: -1})
        self.assertEqual([row[0] for row in told],
                         [("purse", 0, 1), ("purse", 0, 2), ("use", 0, 2, "x", "one"), ("use", 0, 2, "x", "two"),
                          ("purse", 0, 3), ("purse", 0, 4)]
                         + [("use", 0, 4, name, maker) for name in ("x", "a", "y") for maker in ("one", "two")])

    def test_one_thing_looked_at_twice(self):
        told = self.rows_of("def f x lone to lone : case x only : case x only : give x end end")
        outer, inner = ("piece", 0, 0, "only"), ("piece", 0, 1, "only")
        self.assertEqual(told, [
            (("purse", 0, 2), {("first", 0): 1, outer: 1, inner: 1, ("last", 0): -1}, 0),
            (("use", 0, 2, "x", "only"), {("param", 0, 0, "only"): 1, outer: -1, inner: -1, ("result", 0, "only"): -1}, 0),
        ])

    def test_a_cases_weight_comes_in_and_is_taken_again(self):
        told = self.rows_of("def f x item to item : case x one : let y make one ; give y"
                            " | two a : let y call f a ; let z make two y ; give z end")
        first, last, case = ("first", 0), ("last", 0), ("piece", 0, 0)
        self.assertEqual([row for row in told if row[0][0] == "purse"], [
            (("purse", 0, 1), {first: 1, case + ("one",): 1, ("piece", 0, 1, "one"): -1}, 0),
            (("purse", 0, 2), {first: 1, case + ("one",): 1, ("piece", 0, 1, "one"): -1, last: -1}, 0),
            (("purse", 0, 3), {case + ("two",): 1}, 0),
            (("purse", 0, 4), {case + ("two",): 1, last: 1, ("piece", 0, 4, "two"): -1}, 0),
            (("purse", 0, 5), {case + ("two",): 1, ("piece", 0, 4, "two"): -1}, 0),
        ])
        uses = {row[0][2:]: row[1] for row in told if row[0][0] == "use"}
        self.assertEqual(uses[(5, "x", "two")], {("param", 0, 0, "two"): 1, case + ("two",): -1})
        self.assertEqual(uses[(5, "a", "two")], {case + ("two",): 1, ("param", 0, 0, "two"): -1})

    def test_by_chance_told_anew(self):
        for program, f, args in sound_programs(random.Random(19), 300, 4):
            self.assertEqual(by_unknowns(program), rows_told(program))

    def test_kinds_of_what_is_told(self):
        for why, weights, least in rows(LIST_PROGRAM):
            self.assertEqual([type(why), type(weights), type(least)], [tuple, dict, int])
            self.assertEqual({type(number) for pair in weights.items() for number in pair} - {int}, set())
            self.assertNotIn(0, weights.values())

    def test_lists_and_dicts_of_the_askers_own(self):
        told = rows(LIST_PROGRAM)
        for why, weights, least in told:
            weights.clear()
        told.clear()
        self.assertEqual(by_unknowns(LIST_PROGRAM), rows_told(LIST_PROGRAM))


if __name__ == "__main__":
    unittest.main()
