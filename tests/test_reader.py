"""Reading a program from its text: promises 2, 4, 5 and 6."""

import random
import unittest

from pursewright.errors import NoText
from pursewright.reader import read
from tests.helper import (
    LIST_PROGRAM, LIST_TEXT, Chance, count_pieces, deep_body, depth, first_wrong_row, text_of, widest_body,
    widest_program,
)

# One row or more for each sort of row and piece.
SAMPLES = (
    "kind a b",
    "kind a b c d | e | f a b c d",
    "def f to k : give x",
    "def f x k y l to k : give y",
    "def f to k : let x make m ; give x",
    "def f to k : let x make m y z ; give x",
    "def f to k : let x call g ; give x",
    "def f to k : let x call g y z ; give x",
    "def f to k : let x name y ; give x",
    "def f to k : pay 20 ; give x",
    "def f to k : get 1000000 ; give x",
    "def f to k : case x m : give x end",
    "def f to k : case x m a b : give a | n : pay 1 ; give x end",
    "def f x k to k : case x m : case x m a : give a end | n b : case b p : give x | q : give b end end",
)
PALETTE = (
    "", "x", "abcdefgh", "abcdefghi", "kind", "def", "to", "let", "make", "call", "name", "case", "end", "pay",
    "get", "give", "|", ":", ";", "0", "1", "07", "9999999", "10000000", "-1", "+1", "1a", "A", "aB", "x1", "x:",
    ";;", "x_y", "\t", "\r", "~", ",",
)


def function(body):
    return ((), (("f", (), "k", body),))


class ToldTest(unittest.TestCase):
    def told(self, text, program):
        self.assertEqual(read(text), program)
        self.check_kinds(read(text))

    def check_kinds(self, thing):
        """Equality lets a truth pass for a number, so the kinds are looked at by themselves."""
        self.assertIn(type(thing), (tuple, str, int))
        if type(thing) is tuple:
            for part in thing:
                self.check_kinds(part)

    def test_without_signs(self):
        self.told("", ((), ()))

    def test_kinds_alone(self):
        self.told("kind a b", ((("a", (("b", ()),)),), ()))
        self.told("kind a b c d", ((("a", (("b", ("c", "d")),)),), ()))
        self.told(
            "kind a b | c a a | d\nkind e f",
            ((("a", (("b", ()), ("c", ("a", "a")), ("d", ()))), ("e", (("f", ()),))), ()),
        )

    def test_functions_alone(self):
        self.told("def f to k : give x", function(("give", "x")))
        self.told(
            "def f x k y l to m : give y\ndef g z z to z : give z",
            (
                (),
                (
                    ("f", (("x", "k"), ("y", "l")), "m", ("give", "y")),
                    ("g", (("z", "z"),), "z", ("give", "z")),
                ),
            ),
        )

    def test_both(self):
        self.told("kind a b\ndef f to a : give x", ((("a", (("b", ()),)),), (("f", (), "a", ("give", "x")),)))
        self.told(LIST_TEXT, LIST_PROGRAM)

    def test_each_piece(self):
        for text, body in (
            ("give x", ("give", "x")),
            ("let x make m ; give y", ("make", "x", "m", (), ("give", "y"))),
            ("let x make m y z y z ; give y", ("make", "x", "m", ("y", "z", "y", "z"), ("give", "y"))),
            ("let x call g ; give y", ("call", "x", "g", (), ("give", "y"))),
            ("let x call g y x ; give y", ("call", "x", "g", ("y", "x"), ("give", "y"))),
            ("let x name y ; give x", ("name", "x", "y", ("give", "x"))),
            ("pay 1 ; give x", ("pay", 1, ("give", "x"))),
            ("get 9999999 ; give x", ("get", 9999999, ("give", "x"))),
            ("pay 1000010 ; get 20 ; give x", ("pay", 1000010, ("get", 20, ("give", "x")))),
            ("case x m : give y end", ("case", "x", (("m", (), ("give", "y")),))),
            (
                "case x m a b : give a | n : give x | m c : give c end",
                ("case", "x", (("m", ("a", "b"), ("give", "a")), ("n", (), ("give", "x")), ("m", ("c",), ("give", "c")))),
            ),
        ):
            self.told("def f to k : " + text, function(body))

    def test_cases_within_cases(self):
        text = (
            "pay 3 ; case x m : let y name x ; case y n a : give a end"
            " | o : case x p : case x q : give x | r : give y end | s : get 4 ; give z end | t b : give b end"
        )
        body = (
            "pay",
            3,
            (
                "case",
                "x",
                (
                    ("m", (), ("name", "y", "x", ("case", "y", (("n", ("a",), ("give", "a")),)))),
                    (
                        "o",
                        (),
                        (
                            "case",
                            "x",
                            (
                                ("p", (), ("case", "x", (("q", (), ("give", "x")), ("r", (), ("give", "y"))))),
                                ("s", (), ("get", 4, ("give", "z"))),
                            ),
                        ),
                    ),
                    ("t", ("b",), ("give", "b")),
                ),
            ),
        )
        self.told("def f to k : " + text, function(body))

    def test_ends_together(self):
        text = "def f to k : case x m : case y m : case z m : give a end end end"
        body = ("give", "a")
        for name in "zyx":
            body = ("case", name, (("m", (), body),))
        self.told(text, function(body))

    def test_names_near_the_kept_words(self):
        self.told(
            "kind kinds defs ends | toto payy\ndef lets gets cases to gives : give names",
            (
                (("kinds", (("defs", ("ends",)), ("toto", ("payy",)))),),
                (("lets", (("gets", "cases"),), "gives", ("give", "names")),),
            ),
        )

    def test_not_sound_is_read_all_the_same(self):
        self.told("kind a b | b\nkind a b z", ((("a", (("b", ()), ("b", ()))), ("a", (("b", ("z",)),))), ()))
        self.told("def f x k x k to k : give y", ((), (("f", (("x", "k"), ("x", "k")), "k", ("give", "y")),)))

    def test_the_bounds(self):
        self.assertEqual((count_pieces(widest_body()), depth(widest_body())), (60, 40))
        self.told(text_of(widest_program()), widest_program())
        for words in (59, 60, 61, 90):
            body = deep_body(words - 1, ("give", "x"))
            self.told(text_of(function(body)), function(body))

    def test_sixty_cases_deep(self):
        body = ("give", "x")
        for number in range(59):
            body = ("case", "x", (("m", ("a", "b"), body),))
        self.told(text_of(function(body)), function(body))

    def test_far_deeper_than_the_bounds(self):
        text = "def f to k : " + "case x m : pay 1 ; " * 5000 + "give x" + " end" * 5000
        body = read(text)[1][0][3]
        for number in range(5000):
            self.assertEqual(body[:2], ("case", "x"))
            body = body[2][0][2][2]
        self.assertEqual(body, ("give", "x"))

    def test_asked_again(self):
        for text in SAMPLES + (LIST_TEXT, ""):
            self.assertEqual(read(text), read(text))

    def test_by_chance(self):
        chance = Chance(random.Random(1))
        for number in range(1500):
            program = chance.program()
            self.told(text_of(program), program)


class RefusedTest(unittest.TestCase):
    def refused(self, text, row):
        with self.assertRaises(NoText) as taken:
            read(text)
        self.assertEqual(taken.exception.row, row, repr(text))
        self.assertIs(type(taken.exception.row), int)

    def test_first_middle_last(self):
        rows = ["kind a b", "kind c d", "def f to a : give x", "def g to a : give x"]
        for wrong in ("x", "", "kind", "def", "kind e", "def h to a : give"):
            for place in range(4):
                self.refused("\n".join(rows[:place] + [wrong] + rows[place + 1 :]), place)
            self.refused("\n".join(rows + [wrong]), 4)
            self.refused("\n".join([wrong] + rows), 0)

    def test_two_such_rows(self):
        rows = ["kind a b", "kind c d", "def f to a : give x", "def g to a : give x"]
        for first in range(3):
            for second in range(first + 1, 4):
                wrong = list(rows)
                wrong[first] = rows[first] + " ;"
                wrong[second] = ""
                self.refused("\n".join(wrong), first)

    def test_empty_rows(self):
        self.refused("\n", 0)
        self.refused("\n\n", 0)
        self.refused("\nkind a b", 0)
        self.refused("kind a b\n", 1)
        self.refused("kind a b\n\nkind c d", 1)
        self.refused("kind a b\ndef f to a : give x\n", 2)
        self.refused("def f to a : give x\n\n", 1)

    def test_blanks(self):
        self.refused(" ", 0)
        self.refused("  ", 0)
        for sample in SAMPLES:
            self.refused(" " + sample, 0)
            self.refused(sample + " ", 0)
            self.refused(sample + "\n ", 1)
            for place in [number for number, sign in enumerate(sample) if sign == " "]:
                self.refused(sample[:place] + " " + sample[place:], 0)
                self.refused(sample[:place] + "\t" + sample[place + 1 :], 0)

    def test_kind_behind_function(self):
        self.refused("def f to a : give x\nkind a b", 1)
        self.refused("kind a b\ndef f to a : give x\nkind c d", 2)
        self.refused("kind a b\ndef f to a : give x\ndef g to a : give x\nkind c d\nx", 3)
        self.refused("def f to a : give x\nx\nkind a b", 1)

    def test_cases_and_ends(self):
        for text in (
            "case x m : give x",
            "case x m : give x |",
            "case x m : give x | end",
            "case x end",
            "case x : give x end",
            "case x m : end",
            "case x m : give x end end",
            "give x end",
            "pay 1 ; give x end",
            "case x m : case x m : give x end",
            "case x m : give x end | n : give x",
            "case x m : give x | n : give x end end",
            "case x m : give x | | n : give x end",
            "case x | m : give x end",
            "give x | m : give x end",
            "case m : give x end : give x",
        ):
            self.refused("def f to k : " + text, 0)

    def test_words_behind_a_whole_body(self):
        for word in ("x", "give x", "; give x", ";", ":", "|", "end", "to", "", "case x m : give x end"):
            self.refused("def f to k : give x " + word, 0)
            self.refused("def f to k : case x m : give x end " + word, 0)

    def test_piece_without_body(self):
        for text in ("pay 1", "pay 1 ;", "let x make m", "let x make m ;", "let x name y ;", "let x call f y ;", ""):
            self.refused("def f to k : " + text, 0)
            self.refused(("def f to k : " + text).rstrip(), 0)

    def test_numbers_that_are_none(self):
        for number in ("0", "00", "01", "10000000", "12345678", "-1", "+1", "1.0", "x", "1x", "one", ";"):
            for word in ("pay", "get"):
                self.refused(f"def f to k : {word} {number} ; give x", 0)
                self.refused(f"kind a b\ndef f to k : case x m : {word} {number} ; give x end", 1)

    def test_names_that_are_none_at_each_place(self):
        for sample in SAMPLES:
            words = sample.split(" ")
            for place, word in enumerate(words):
                if word.isalpha() and len(word) == 1:
                    for wrong in ("A", "x1", "abcdefghi", "case", "kind", "def", "", "1", "-", "give", "name"):
                        self.refused("kind o p\n" + " ".join(words[:place] + [wrong] + words[place + 1 :]), 1)

    def test_each_word_lacking(self):
        for sample in ("kind a", "kind b", "a b", "def to k : give x", "f to k : give x", "def f k : give x",
                       "def f to : give x", "def f to k give x", "def f to k : x", "def f to k : give",
                       "def f x to k : give x", "def f x k y to k : give x", "def f to k : let make m ; give x",
                       "def f to k : let x m ; give x", "def f to k : let x make ; give x",
                       "def f to k : let x make m give x", "def f to k : let x name ; give x",
                       "def f to k : let x name y give x", "def f to k : x make m ; give x",
                       "def f to k : pay ; give x", "def f to k : pay 1 give x", "def f to k : 1 ; give x"):
            self.refused(sample, 0)

    def test_word_too_many(self):
        for sample in ("kind a b |", "kind a | b", "kind | a b", "kind a b | | c", "kind a b ; c", "kind a b : c",
                       "def f to k l : give x", "def f to k : give x y", "def f to k : let x y make m ; give x",
                       "def f to k : let x name y z ; give x", "def f to k : pay 1 2 ; give x",
                       "def f to k : case x y : give x : give x end", "def f to to k : give x",
                       "def f to k : : give x", "def f to k : pay 1 ; ; give x"):
            self.refused(sample, 0)

    def test_each_word_put_otherwise(self):
        """Against a reader of another make: rows with one word more, fewer or other, or two swapped."""
        tried = 0
        for sample in SAMPLES:
            words = sample.split(" ")
            for place in range(len(words) + 1):
                behind = words[place:]
                changed = [words[:place] + behind[1:], words[:place] + behind[1:2] + behind[:1] + behind[2:]]
                for word in PALETTE:
                    changed.append(words[:place] + [word] + behind)
                    changed.append(words[:place] + [word] + behind[1:])
                for row in changed:
                    self.agrees("kind a b\n" + " ".join(row) + "\ndef f to k : give x")
                    tried += 1
        self.assertGreater(tried, 10000)

    def agrees(self, text):
        row = first_wrong_row(text)
        if row is None:
            self.assertEqual(text_of(read(text)), text)
        else:
            self.refused(text, row)

    def test_by_chance(self):
        source = random.Random(2)
        chance = Chance(source)
        for number in range(1500):
            rows = text_of(chance.program()).split("\n")
            for change in range(source.randint(1, 3)):
                words = source.choice(rows).split(" ")
                words[source.randrange(len(words))] = source.choice(PALETTE + ("; give x", "end end"))
                rows[source.randrange(len(rows))] = " ".join(words)
            source.shuffle(rows)
            self.agrees("\n".join(rows))


if __name__ == "__main__":
    unittest.main()
