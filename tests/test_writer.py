"""Writing a program's text: promises 2, 4, 5 and 6."""

import random
import unittest

from pursewright.reader import read
from pursewright.writer import shown
from tests.helper import LIST_PROGRAM, LIST_TEXT, Chance, deep_body, text_of, widest_program


def function(body):
    return ((), (("f", (), "k", body),))


class ShownTest(unittest.TestCase):
    def shows(self, program, text):
        self.assertEqual(shown(program), text)
        self.assertEqual(read(text), program)

    def test_without_both(self):
        self.shows(((), ()), "")

    def test_kinds(self):
        self.shows(((("a", (("b", ()),)),), ()), "kind a b")
        self.shows(((("a", (("b", ("c",)), ("d", ()), ("e", ("a", "a")))),), ()), "kind a b c | d | e a a")
        self.shows(((("a", (("b", ()),)), ("c", (("d", ("a",)),))), ()), "kind a b\nkind c d a")

    def test_functions(self):
        self.shows(function(("give", "x")), "def f to k : give x")
        self.shows(
            ((), (("f", (("x", "k"), ("y", "l")), "m", ("give", "x")), ("f", (("z", "z"),), "z", ("give", "z")))),
            "def f x k y l to m : give x\ndef f z z to z : give z",
        )

    def test_both(self):
        self.shows(LIST_PROGRAM, LIST_TEXT)
        self.shows(((("a", (("b", ()),)),), (("f", (), "a", ("give", "x")),)), "kind a b\ndef f to a : give x")

    def test_each_piece(self):
        for body, text in (
            (("make", "x", "m", (), ("give", "y")), "let x make m ; give y"),
            (("make", "x", "m", ("y", "z"), ("give", "y")), "let x make m y z ; give y"),
            (("call", "x", "g", (), ("give", "y")), "let x call g ; give y"),
            (("call", "x", "g", ("y", "z"), ("give", "y")), "let x call g y z ; give y"),
            (("name", "x", "y", ("give", "x")), "let x name y ; give x"),
            (("pay", 1, ("give", "x")), "pay 1 ; give x"),
            (("get", 9999999, ("give", "x")), "get 9999999 ; give x"),
            (("pay", 1000000, ("get", 70, ("give", "x"))), "pay 1000000 ; get 70 ; give x"),
            (("case", "x", (("m", (), ("give", "y")),)), "case x m : give y end"),
            (
                ("case", "x", (("m", ("a", "b"), ("pay", 3, ("give", "a"))), ("n", (), ("give", "x")))),
                "case x m a b : pay 3 ; give a | n : give x end",
            ),
            (
                ("case", "x", (("m", (), ("case", "y", (("n", (), ("give", "y")),))), ("o", ("z",), ("give", "z")))),
                "case x m : case y n : give y end | o z : give z end",
            ),
        ):
            self.shows(function(body), "def f to k : " + text)

    def test_the_bounds(self):
        self.shows(widest_program(), text_of(widest_program()))
        body = deep_body(60, ("give", "x"))
        self.shows(function(body), text_of(function(body)))

    def test_far_deeper_than_the_bounds(self):
        text = "def f to k : " + "case x m : pay 1 ; " * 5000 + "give x" + " end" * 5000
        self.assertEqual(shown(read(text)), text)

    def test_asked_again(self):
        self.assertEqual(shown(LIST_PROGRAM), shown(LIST_PROGRAM))

    def test_by_chance(self):
        chance = Chance(random.Random(3))
        for number in range(1500):
            program = chance.program()
            self.shows(program, text_of(program))


if __name__ == "__main__":
    unittest.main()
