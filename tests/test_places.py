"""Pieces, the ways to them and the names bound there: promise 5."""

import random
import unittest

from pursewright.places import kinds_at, pieces, way
from pursewright.reader import read
from tests.helper import (
    LIST_PROGRAM, Chance, bound_on, count_pieces, deep_body, sound_programs, ways, widest_body, widest_program,
)

KINDS = "kind item one | two item\nkind list nil | more item list\nkind pair both list item\n"
PROGRAM = read(
    KINDS
    + "def main x pair y item to list : case x both a b : case a nil : let c make two b ; let d call ends c y ; give d"
    " | more c d : case c one : pay 3 ; give d | two e : let f name d ; get 2 ; give f end end end\n"
    "def ends p item q item to list : let n make nil ; let m make more q n ; give m\n"
    "def fresh to list : let e make nil ; let f call fresh ; give f"
)
MAIN_WORDS = ["case", "case", "make", "call", "give", "case", "pay", "give", "name", "get", "give"]


class PiecesTest(unittest.TestCase):
    def test_one_piece(self):
        self.assertEqual(pieces(("give", "x")), [("give", "x")])
        self.assertEqual(way(("give", "x"), 0), [0])

    def test_each_piece(self):
        give = ("give", "x")
        for head in (("make", "x", "m", ()), ("call", "x", "f", ("a", "b")), ("name", "x", "y"), ("pay", 1), ("get", 2)):
            body = head + (give,)
            self.assertEqual(pieces(body), [body, give])
            self.assertEqual(way(body, 1), [0, 1])
        body = ("case", "x", (("m", (), give), ("o", ("a",), ("pay", 3, give))))
        self.assertEqual(pieces(body), [body, give, ("pay", 3, give), give])
        self.assertEqual([way(body, n) for n in range(4)], [[0], [0, 1], [0, 2], [0, 2, 3]])

    def test_cases_within_cases(self):
        body = PROGRAM[1][0][3]
        told = pieces(body)
        self.assertEqual([piece[0] for piece in told], MAIN_WORDS)
        self.assertEqual(told[0], body)
        self.assertEqual(told[1], body[2][0][2])
        self.assertEqual(told[5], body[2][0][2][2][1][2])
        self.assertEqual(told[-1], ("give", "f"))
        due = [[0], [0, 1], [0, 1, 2], [0, 1, 2, 3], [0, 1, 2, 3, 4], [0, 1, 5], [0, 1, 5, 6], [0, 1, 5, 6, 7],
               [0, 1, 5, 8], [0, 1, 5, 8, 9], [0, 1, 5, 8, 9, 10]]
        self.assertEqual([way(body, n) for n in range(11)], due)

    def test_cases_side_by_side(self):
        inner = ("case", "y", (("m", (), ("give", "a")), ("o", (), ("give", "b"))))
        body = ("case", "x", (("m", (), inner), ("o", (), inner), ("p", (), ("give", "c"))))
        self.assertEqual([piece[:2] for piece in pieces(body)],
                         [("case", "x"), ("case", "y"), ("give", "a"), ("give", "b"), ("case", "y"), ("give", "a"),
                          ("give", "b"), ("give", "c")])
        self.assertEqual([way(body, n) for n in range(8)],
                         [[0], [0, 1], [0, 1, 2], [0, 1, 3], [0, 4], [0, 4, 5], [0, 4, 6], [0, 7]])

    def test_the_widest_and_far_deeper(self):
        body = widest_body()
        self.assertEqual(len(pieces(body)), 60)
        self.assertEqual(max(len(way(body, n)) for n in range(60)), 40)
        deep = deep_body(5000, ("give", "x"))
        self.assertEqual(len(pieces(deep)), 5001)
        self.assertEqual(way(deep, 5000), list(range(5001)))

    def test_by_chance_told_anew(self):
        source = random.Random(16)
        for number in range(400):
            body = Chance(source).body(source.randint(0, 7))
            due = list(ways(body))
            self.assertEqual(pieces(body), [one[-1][1] for one in due])
            self.assertEqual(len(pieces(body)), count_pieces(body))
            self.assertEqual([way(body, n) for n in range(len(due))], [[step[0] for step in one] for one in due])

    def test_lists_of_the_askers_own(self):
        body = PROGRAM[1][0][3]
        for told in (pieces(body), way(body, 4)):
            self.assertIs(type(told), list)
            told.clear()
        self.assertEqual(len(pieces(body)), 11)
        self.assertEqual(way(body, 4), [0, 1, 2, 3, 4])


class KindsAtTest(unittest.TestCase):
    def test_params_first(self):
        self.assertEqual(kinds_at(PROGRAM, 0, 0), [("x", "pair"), ("y", "item")])
        self.assertEqual(kinds_at(PROGRAM, 1, 0), [("p", "item"), ("q", "item")])
        self.assertEqual(kinds_at(PROGRAM, 2, 0), [])

    def test_names_in_the_order_in_which_they_are_bound(self):
        params = [("x", "pair"), ("y", "item")]
        head = params + [("a", "list"), ("b", "item")]
        self.assertEqual(kinds_at(PROGRAM, 0, 1), head)
        # The first arm has no names; what piece n itself binds isn't bound ahead of it.
        self.assertEqual(kinds_at(PROGRAM, 0, 2), head)
        self.assertEqual(kinds_at(PROGRAM, 0, 3), head + [("c", "item")])
        self.assertEqual(kinds_at(PROGRAM, 0, 4), head + [("c", "item"), ("d", "list")])

    def test_names_of_another_arm_are_not_there(self):
        head = [("x", "pair"), ("y", "item"), ("a", "list"), ("b", "item"), ("c", "item"), ("d", "list")]
        for n in (5, 6, 7):
            self.assertEqual(kinds_at(PROGRAM, 0, n), head)
        self.assertEqual(kinds_at(PROGRAM, 0, 8), head + [("e", "item")])
        for n in (9, 10):
            self.assertEqual(kinds_at(PROGRAM, 0, n), head + [("e", "item"), ("f", "list")])

    def test_other_functions(self):
        self.assertEqual(kinds_at(PROGRAM, 1, 2), [("p", "item"), ("q", "item"), ("n", "list"), ("m", "list")])
        self.assertEqual(kinds_at(PROGRAM, 2, 1), [("e", "list")])
        self.assertEqual(kinds_at(PROGRAM, 2, 2), [("e", "list"), ("f", "list")])
        self.assertEqual(kinds_at(LIST_PROGRAM, 0, 6),
                         [("x", "list"), ("a", "item"), ("b", "list"), ("c", "list"), ("d", "list")])

    def test_the_widest(self):
        program = widest_program()
        last = len(pieces(program[1][0][3])) - 1
        self.assertEqual([name for name, kind in kinds_at(program, 0, last)],
                         ["x", "y", "z", "w", "xa", "xb", "xc", "xd", "za", "zb", "zc", "zd"])

    def test_by_chance_told_anew(self):
        for program, f, args in sound_programs(random.Random(17), 200, 4):
            for n, one in enumerate(ways(program[1][f][3])):
                due = [(name, kind) for name, kind, source in bound_on(program, f, one)]
                self.assertEqual(kinds_at(program, f, n), due)

    def test_a_list_of_the_askers_own(self):
        told = kinds_at(PROGRAM, 0, 4)
        self.assertIs(type(told), list)
        self.assertEqual({type(pair) for pair in told}, {tuple})
        told.clear()
        self.assertEqual(len(kinds_at(PROGRAM, 0, 4)), 6)


if __name__ == "__main__":
    unittest.main()
