"""Papers for turned programs: promise 28, and the fourth point of 3."""

import random
import unittest

from pursewright.errors import NoChain, NoPaper, NoTurn, PurseError
from pursewright.least import least
from pursewright.papers import asks, checked, held, tells
from pursewright.places import kinds_at, pieces
from pursewright.reader import read
from pursewright.rows import unknowns
from pursewright.turned import moved, named, written_out
from pursewright.turnedpapers import moved_paper, named_paper, written_paper
from pursewright.walk import Walk
from tests.helper import LIST_PROGRAM, deep_body, paper_by_chance, sound_programs, spare_paper

KINDS = "kind item one | two item\nkind list nil | more item list\nkind pair both item item\n"
CASES = ("\ndef g y item to item : case y one : pay 3 ; let e make one ; give e | two a : let b call g a ;"
         " let c make two b ; let d name c ; give d end")
G = "\ndef g y item z item to item : pay 1 ; let x make two y ; get 2 ; give x"
TURNS = {"write": (written_out, written_paper), "move": (moved, moved_paper), "name": (named, named_paper)}


def function(text, others=""):
    """A program whose first function has this row behind its name."""
    return read(KINDS + "def f " + text + others)


def outer(program, paper):
    """The numbers at params, firsts, results and lasts."""
    return [(unknown, number) for unknown, number in zip(unknowns(program), paper[1], strict=True) if unknown[0] != "piece"]


class PaperCase(unittest.TestCase):
    def turn(self, word, program, paper, *where):
        """The turned program and its paper, looked at."""
        turned, told = TURNS[word][0](program, *where), TURNS[word][1](program, *where, paper)
        self.assertIs(type(told), tuple)
        self.assertEqual([type(told[0]), type(told[1])], [int, tuple])
        self.assertEqual({type(number) for number in told[1]} - {int}, set())
        self.assertEqual(len(told[1]), len(unknowns(turned)))
        self.assertGreaterEqual(min(told[1]), 0)
        self.assertEqual(told[0], paper[0])
        self.assertIs(checked(turned, told), True)
        self.assertEqual(outer(turned, told), outer(program, paper))
        return turned, told

    def papers(self, program):
        """Several papers that are let by."""
        source = random.Random(45)
        told = [spare_paper(source, program) for number in range(3)] + [paper_by_chance(source, program)]
        for f in range(len(program[1])):
            many = len([one for one in unknowns(program) if one[:2] in (("param", f), ("first", f))])
            told.append(least(program, f, (1,) * many)[2])
        self.assertNotIn(None, told)
        parts, numbers = told[-1]
        return told + [(6 * parts, tuple(6 * number for number in numbers))]

    def turn_all(self, word, program, *where):
        for paper in self.papers(program):
            self.turn(word, program, paper, *where)

    def refused(self, word, program, paper, *where):
        with self.assertRaises(NoTurn) as caught:
            TURNS[word][1](program, *where, paper)
        self.assertIsInstance(caught.exception, PurseError)
        self.assertNotIsInstance(caught.exception, (NoChain, NoPaper))


class WrittenPaperTest(PaperCase):
    def test_a_call(self):
        program = function("x item w item to item : pay 1 ; let c call g x w ; get 4 ; give c", G)
        self.turn_all("write", program, 0, 1)

    def test_the_same_arg_twice(self):
        self.turn_all("write", function("x item to item : let c call g x x ; let d call g x c ; give d", G), 0, 0)
        self.turn_all("write", function("x item to item : let c call g x x ; let d call g x c ; give d", G), 0, 1)

    def test_cases_makes_names_and_calls_of_its_own(self):
        program = function("x item to item : let c call g x ; pay 5 ; let d make two c ; give d", CASES)
        self.turn_all("write", program, 0, 0)
        self.turn_all("write", program, 1, 4)

    def test_a_call_of_itself(self):
        self.turn_all("write", LIST_PROGRAM, 0, 4)

    def test_several_times_over(self):
        for paper in self.papers(LIST_PROGRAM):
            program = LIST_PROGRAM
            for number in range(4):
                n = [piece[0] for piece in pieces(program[1][0][3])].index("call")
                program, paper = self.turn("write", program, paper, 0, n)

    def test_noughts(self):
        program = function("x item to item : let c call g x ; get 4 ; give c", "\ndef g y item to item : get 1 ; give y")
        paper = (1, (0,) * len(unknowns(program)))
        turned, told = self.turn("write", program, paper, 0, 0)
        self.assertEqual(set(told[1]), {0})

    def test_without_params(self):
        program = function("x item to list : let c call g ; give c", "\ndef g to list : pay 2 ; let x make nil ; give x")
        self.turn_all("write", program, 0, 0)

    def test_weights_go_through_the_call(self):
        # Where the call takes what lies in x, the turned function must take it by its names.
        copy = ("\ndef NAME x list to list : case x nil : let e make nil ; give e"
                " | more a b : pay 2 ; let c call NAME b ; let d make more a c ; give d end")
        program = function("x list to list : let c call g x ; let d call h c ; give d",
                           copy.replace("NAME", "g") + copy.replace("NAME", "h"))
        paper = least(program, 0, (0, 0, 0, 1, 0))[2]
        prices = dict(zip(unknowns(program), paper[1]))
        self.assertEqual(prices[("param", 0, 0, "more")], 4 * paper[0])
        turned, told = self.turn("write", program, paper, 0, 0)
        self.turn("write", turned, told, 0, [piece[0] for piece in pieces(turned[1][0][3])].index("call"))

    def test_refused(self):
        program = function("x item w item to item : pay 1 ; let c call g x w ; get 4 ; give c", G)
        paper = self.papers(program)[0]
        for f, n in ((0, 0), (0, 2), (0, 3), (0, 4), (0, -3), (0, -1), (2, 1), (-2, 1), (1, 1)):
            self.refused("write", program, paper, f, n)


class MovedPaperTest(PaperCase):
    def test_behind_each_sort_of_piece(self):
        for own in ("let m make two x", "let m name x"):
            for behind in ("pay 3", "get 3", "let n make two w", "let n name x", "let n call g x w", "let n call f w x"):
                if behind == "let n call f w x":
                    text = f"x item w item to item : case w one : give x | two v : {own} ; let n call f x v ; get 1 ; give m end"
                    self.turn_all("move", function(text, G), 0, 2)
                else:
                    self.turn_all("move", function(f"x item w item to item : pay 1 ; {own} ; {behind} ; give m", G), 0, 1)

    def test_behind_a_case(self):
        program = function("x item w item to item : let m make two x ; case w one : pay 9 ; give m"
                           " | two a : case a one : give a | two b : pay 2 ; give m end end")
        for paper in self.papers(program):
            turned, told = self.turn("move", program, paper, 0, 0)
            self.turn("move", turned, told, 0, 4)
            self.turn("move", turned, told, 0, 1)

    def test_a_case_of_what_it_is_made_of(self):
        program = function("x item w item to item : let m name x ; case x one : give m | two a : pay 1 ; give m end")
        self.turn_all("move", program, 0, 0)

    def test_refused(self):
        program = function("x item w item to item : let m make two x ; pay 1 ; let n make two m ; get 1 ; give n")
        paper = self.papers(program)[0]
        for f, n in ((0, 1), (0, 3), (0, 4), (0, 5), (0, -5), (1, 0), (-1, 0)):
            self.refused("move", program, paper, f, n)
        turned, told = self.turn("move", program, paper, 0, 0)
        self.refused("move", turned, told, 0, 1)
        turned, told = self.turn("move", turned, told, 0, 2)
        self.refused("move", turned, told, 0, 3)


class NamedPaperTest(PaperCase):
    def test_each_name_at_each_piece(self):
        program = function("x item w item to item : pay 2 ; let p make both x x ; let a name x ; let b make two w ;"
                           " let c call g a w ; case w one : pay 1 ; give a | two d : case d one : give c"
                           " | two e : give b end end", G)
        papers = self.papers(program)
        for n in range(len(pieces(program[1][0][3]))):
            for x, kind in kinds_at(program, 0, n):
                for paper in papers:
                    self.turn("name", program, paper, 0, n, x)

    def test_used_many_times_in_several_arms_or_not_at_all(self):
        uses = "let p make both x x ; let q make both x x ; "
        program = function(f"x item w item to pair : case w one : {uses}case x one : give p | two a : give q end"
                           f" | two b : {uses}give p end")
        for x in ("x", "w"):
            for n in (0, 1, 3, 5, 6):
                self.turn_all("name", program, 0, n, x)
        self.turn_all("name", LIST_PROGRAM, 0, 3, "x")
        self.turn_all("name", LIST_PROGRAM, 0, 6, "a")

    def test_over_and_over(self):
        program = function("x item w item to item : let p make both x x ; case x one : give w | two a : give a end")
        for paper in self.papers(program):
            turned = program
            for n in (1, 0, 2, 3, 5):
                turned, paper = self.turn("name", turned, paper, 0, n, kinds_at(turned, 0, n)[0][0])

    def test_refused(self):
        program = function("x item to item : let a name x ; let b make two a ; give b")
        paper = self.papers(program)[0]
        for n, x in ((0, "a"), (0, "b"), (1, "b"), (2, "z"), (0, "f"), (3, "x"), (-1, "x"), (99, "x")):
            self.refused("name", program, paper, 0, n, x)
        for f in (1, -1):
            self.refused("name", program, paper, f, 0, "x")


class EachTurnTest(PaperCase):
    def where(self, source, program, word, f):
        n = source.randrange(len(pieces(program[1][f][3])))
        return (f, n, source.choice(kinds_at(program, f, n))[0]) if word == "name" else (f, n)

    def test_by_chance_several_turns(self):
        source = random.Random(46)
        seen = {}
        for program, f, args in sound_programs(source, 200, 5):
            paper = source.choice((spare_paper, paper_by_chance))(source, program)
            if paper is None:
                continue
            for number in range(10):
                word = source.choice(("write", "write", "move", "move", "name"))
                where = self.where(source, program, word, source.randrange(len(program[1])))
                try:
                    turned = TURNS[word][0](program, *where)
                except NoTurn:
                    self.refused(word, program, paper, *where)
                    continue
                if max(len(pieces(one[3])) for one in turned[1]) > 150:
                    continue
                kind = (word, pieces(program[1][where[0]][3])[where[1]][0], number > 4)
                seen[kind] = seen.get(kind, 0) + 1
                program, paper = self.turn(word, program, paper, *where)
            self.run_with(program, paper, f, args)
        for kind in (("write", "call"), ("move", "make"), ("move", "name"), ("name", "give"), ("name", "case")):
            for late in (True, False):
                self.assertGreater(seen[kind + (late,)], 10)

    def run_with(self, program, paper, f, args):
        """The first point of 3, of what came of all turns."""
        coins = -(-asks(program, paper, f, args) // paper[0])
        above = paper[0] * coins - asks(program, paper, f, args)
        walk = Walk(program, f, args, coins)
        for step in range(60):
            self.assertGreaterEqual(paper[0] * walk.purse(), sum(held(program, paper, walk.frames())))
            if not walk.turn():
                break
        if walk.end() is not None:
            self.assertNotEqual(walk.end()[0], "short")
            if walk.end()[0] == "gave":
                self.assertGreaterEqual(paper[0] * walk.purse(), tells(program, paper, f, walk.end()[1]) + above)

    def test_far_deeper(self):
        program = function("x item to item : let c call g x ; give c", "\ndef g y item to item : give y")
        deep = (program[0], program[1][:1] + (program[1][1][:3] + (deep_body(1500, ("give", "y")),),))
        paper = (1, tuple(10**11 if unknown[0] == "first" else 0 for unknown in unknowns(deep)))
        self.assertIs(checked(deep, paper), True)
        turned, told = self.turn("write", deep, paper, 0, 0)
        turned, told = self.turn("name", turned, told, 0, 1400, "x")
        self.turn("move", turned, told, 0, 0)

    def test_asked_again(self):
        paper = self.papers(LIST_PROGRAM)[0]
        for again in range(2):
            self.assertEqual(written_paper(LIST_PROGRAM, 0, 4, paper), written_paper(LIST_PROGRAM, 0, 4, paper))
            self.assertEqual(named_paper(LIST_PROGRAM, 0, 4, "x", paper), named_paper(LIST_PROGRAM, 0, 4, "x", paper))
            self.assertEqual(moved_paper(LIST_PROGRAM, 1, 0, paper), moved_paper(LIST_PROGRAM, 1, 0, paper))


if __name__ == "__main__":
    unittest.main()
