"""The desk: promise 31."""

import random
import unittest

from pursewright.desk import answer
from pursewright.errors import NoProgram, NoRow, NoText, NoValue, PurseError
from pursewright.least import least
from pursewright.needs import need, ran
from pursewright.rows import unknowns
from pursewright.valuetexts import show_value
from pursewright.writer import shown
from tests.helper import LIST_TEXT, small_programs

TEXT = "\n".join(
    [
        "kind unit u",
        "kind item one | two item",
        "kind list nil | more item list",
        "def copy x list to list : case x nil : let e make nil ; give e"
        " | more a b : pay 2 ; let c call copy b ; let d make more a c ; give d end",
        "def fresh to list : let e make nil ; pay 3 ; give e",
        "def pick x item y list to item : get 5 ; give x",
        "def loop x unit to unit : get 1 ; let y call loop x ; give y",
        "def grow x item to item : pay 1 ; let y make two x ; let z call grow y ; give z",
        "def gain x item to item : get 1 ; let y make two x ; let z call gain y ; give z",
    ]
)
RING = "\n".join(
    [
        "kind unit u",
        "def first x unit to unit : let y call second x ; give y",
        "def second x unit to unit : pay 1 ; let y call third x ; give y",
        "def third x unit to unit : get 1 ; pay 1 ; let y call second x ; give y",
    ]
)
TREE = ("kind tree leaf | node tree tree tree\ndef f x tree to tree : case x leaf : give x | node a b c :"
        " let p call f a ; let q call f b ; let r call f c ; pay 1 ; give r end")


def steps_text(more):
    """Function f, whose run has 976 steps and so many more: 25 calls of a function of 38 pieces, gets and a give."""
    calls = "".join(f"let {letter} call g x ; " for letter in "abcdefghijklmnopqrstuvwyz")
    return ("kind unit u\ndef f x unit to unit : " + calls + "get 1 ; " * more + "give x\n"
            "def g x unit to unit : " + "pay 1 ; " * 37 + "give x")


class RunTest(unittest.TestCase):
    def test_gave(self):
        self.assertEqual(answer(TEXT, "run copy 4 more(one,more(two(one),nil))"), "gave more(one,more(two(one),nil)) left 0")
        self.assertEqual(answer(TEXT, "run copy 9 nil"), "gave nil left 9")
        self.assertEqual(answer(TEXT, "run pick 0 two(two(one)) more(one,nil)"), "gave two(two(one)) left 5")

    def test_without_params(self):
        self.assertEqual(answer(TEXT, "run fresh 3"), "gave nil left 0")
        self.assertEqual(answer(TEXT, "run fresh 2"), "short 3 left 2")

    def test_short(self):
        self.assertEqual(answer(TEXT, "run copy 3 more(one,more(two(one),nil))"), "short 2 left 1")
        self.assertEqual(answer(TEXT, "run copy 0 more(one,nil)"), "short 2 left 0")

    def test_great(self):
        self.assertEqual(answer(TEXT, "run grow 100 one"), "great two left 40")
        self.assertEqual(answer(TEXT, "run gain 100 one"), "great two left 160")

    def test_late(self):
        self.assertEqual(answer(TEXT, "run loop 0 u"), "late left 500")
        self.assertEqual(answer(TEXT, "run loop 7 u"), "late left 507")

    def test_coins(self):
        self.assertEqual(answer(TEXT, "run fresh 0"), "short 3 left 0")
        self.assertEqual(answer(TEXT, "run fresh 999999999"), "gave nil left 999999996")
        self.assertEqual(answer(TEXT, "run pick 999999999 one nil"), "gave one left 1000000004")

    def test_just_a_thousand_steps(self):
        self.assertEqual(answer(steps_text(24), "run f 925 u"), "gave u left 24")
        self.assertEqual(answer(steps_text(24), "run f 924 u"), "short 1 left 0")
        self.assertEqual(answer(steps_text(23), "run f 925 u"), "gave u left 23")
        self.assertEqual(answer(steps_text(25), "run f 925 u"), "late left 25")
        self.assertEqual(answer(steps_text(26), "run f 925 u"), "late left 25")

    def test_by_chance(self):
        source = random.Random(56)
        seen = {}
        for program, f, args in small_programs(source, 200):
            coins = source.choice((0, 5, 4050, 999999999))
            row = " ".join(["run", program[1][f][0], str(coins)] + [show_value(value) for value in args])
            end, purse, steps = ran(program, f, args, coins, 1000)
            words = {"gave": lambda: "gave " + show_value(end[1]), "short": lambda: f"short {end[1]}",
                     "great": lambda: f"great {end[1]}", "late": lambda: "late"}
            self.assertEqual(answer(shown(program), row), f"{words[end[0]]()} left {purse}")
            seen[end[0]] = seen.get(end[0], 0) + 1
        self.assertEqual(set(seen), {"gave", "short", "great", "late"})


class NeedTest(unittest.TestCase):
    def test_gave(self):
        self.assertEqual(answer(TEXT, "need copy more(one,more(two(one),nil))"), "needs 4")
        self.assertEqual(answer(TEXT, "need copy nil"), "needs 0")
        self.assertEqual(answer(TEXT, "need fresh"), "needs 3")
        self.assertEqual(answer(TEXT, "need pick one nil"), "needs 0")

    def test_late_and_great(self):
        self.assertEqual(answer(TEXT, "need loop u"), "needs 0 late")
        self.assertEqual(answer(TEXT, "need grow one"), "needs 60 great")
        self.assertEqual(answer(TEXT, "need gain one"), "needs 0 great")
        self.assertEqual(answer(TEXT.replace("get 1 ; let y call loop", "pay 1 ; let y call loop"), "need loop u"),
                         "needs 500 late")

    def test_just_a_thousand_steps(self):
        self.assertEqual(answer(steps_text(24), "need f u"), "needs 925")
        self.assertEqual(answer(steps_text(25), "need f u"), "needs 925 late")

    def test_by_chance(self):
        source = random.Random(57)
        for program, f, args in small_programs(source, 150):
            row = " ".join(["need", program[1][f][0]] + [show_value(value) for value in args])
            coins, end = need(program, f, args, 1000)
            behind = "" if end[0] == "gave" else " " + end[0]
            self.assertEqual(answer(shown(program), row), f"needs {coins}{behind}")


class LeastTest(unittest.TestCase):
    def test_weights_of_nought_are_left_out(self):
        self.assertEqual(answer(LIST_TEXT, "least copy 1 1 1 1 1"), "price 2/1 x.more=2/1 +0/1")
        self.assertEqual(answer(LIST_TEXT, "least copy 0 0 0 7 1"), "price 14/1 x.more=2/1 +0/1")

    def test_without_params(self):
        self.assertEqual(answer("kind unit u\ndef f to unit : pay 3 ; let e make u ; give e", "least f 1"), "price 3/1 +3/1")
        self.assertEqual(answer("kind unit u\ndef f to unit : get 3 ; let e make u ; give e", "least f 1000"), "price 0/1 +0/1")
        self.assertEqual(answer("kind unit u\ndef f to unit : pay 3 ; let e make u ; give e", "least f 0").split()[:2],
                         ["price", "0/1"])

    def test_fractions(self):
        told = answer(TREE, "least f 1 1000 1")
        self.assertEqual(told, "price 1/2 x.leaf=1/2 +0/1")
        self.assertEqual(answer(TREE, "least f 6 7 1000"), "price 3/1 x.leaf=1/2 +0/1")

    def test_several_params(self):
        text = ("kind num z | s num\ndef f x num y num to num : case x z : case y z : give y"
                " | s b : pay 3 ; let e make z ; let c call f e b ; give c end | s a : pay 5 ; let c call f a y ; give c end")
        told = answer(text, "least f 9 1 9 1 9")
        self.assertEqual(told, "price 8/1 x.s=5/1 y.s=3/1 +0/1")

    def test_none_with_its_ring(self):
        told = answer(RING, "least first 1 1").split()
        self.assertEqual((told[0], sorted(told[1:])), ("none", ["second:1", "third:2"]))
        self.assertEqual(answer("kind u v\ndef f x u to u : pay 1 ; let y call f x ; give y", "least f 0 1000"), "none f:1")

    def test_by_chance(self):
        source = random.Random(58)
        seen = {}
        for program, f, args in small_programs(source, 200):
            names = unknowns(program)
            places = [place for place, one in enumerate(names) if one[:2] in (("param", f), ("first", f))]
            goal = tuple(source.choice((0, 1, 2, 1000)) for _ in places)
            told = least(program, f, goal)
            got = answer(shown(program), " ".join(["least", program[1][f][0]] + [str(number) for number in goal]))
            seen[told[0]] = seen.get(told[0], 0) + 1
            if told[0] == "none":
                self.assertEqual(got, " ".join(["none"] + [f"{program[1][g][0]}:{n}" for g, n in told[2]]))
                continue
            due = [f"price {told[1][0]}/{told[1][1]}"]
            for place in places:
                top, bottom = told[2][1][place], told[2][0]
                if names[place][0] == "first" or top:
                    name = "+" if names[place][0] == "first" else program[1][f][1][names[place][2]][0] + "." + names[place][3] + "="
                    due.append(name + self.lowest(top, bottom))
            self.assertEqual(got, " ".join(due))
        self.assertGreater(min(seen.values()), 20)

    def lowest(self, top, bottom):
        for measure in range(min(bottom, 10**4), 0, -1):
            while top % measure == 0 and bottom % measure == 0 and measure > 1:
                top, bottom = top // measure, bottom // measure
        return f"{top}/{bottom}"


class RefusedTest(unittest.TestCase):
    def refused(self, error, text, row):
        with self.assertRaises(PurseError) as caught:
            answer(text, row)
        self.assertIs(type(caught.exception), error, row)
        return caught.exception

    def test_text(self):
        self.assertEqual(self.refused(NoText, "kind unit u\nkind", "run f 1").row, 1)
        self.assertEqual(self.refused(NoText, TEXT + "\nkind a b", "run fresh 3").row, 9)
        self.assertEqual(self.refused(NoText, " ", "").row, 0)
        self.assertEqual(self.refused(NoText, "kind unit u\n", "run  f").row, 1)

    def test_program(self):
        error = self.refused(NoProgram, "kind unit u\ndef f x unit to unit : give y", "run f 1 u")
        self.assertEqual((error.word, error.name), ("unknown", "y"))
        error = self.refused(NoProgram, TEXT + "\ndef copy to unit : give x", "least")
        self.assertEqual((error.word, error.name), ("twice", "copy"))
        error = self.refused(NoProgram, TEXT + "\ndef bad x unit to unit : let y make u x ; give y", "run copy 01 no")
        self.assertEqual((error.word, error.name), ("count", "u"))

    def test_text_ahead_of_program_ahead_of_row_ahead_of_value(self):
        bad_program = "kind unit u\ndef f x unit to unit : give y"
        self.assertEqual(self.refused(NoText, bad_program + "\nno", "nothing").row, 2)
        self.refused(NoProgram, bad_program, "nothing")
        self.refused(NoRow, TEXT, "run copy 01 bad")
        self.refused(NoRow, TEXT, "run copy 1 bad bad")
        self.refused(NoRow, TEXT, "need pick bad")
        self.refused(NoValue, TEXT, "run copy 1 bad")

    def test_blanks(self):
        for row in (" run fresh 3", "run fresh 3 ", "run  fresh 3", "run fresh  3", "", " ", "  ", "run copy 3  nil",
                    " need fresh", "need fresh ", "need  fresh", "least fresh 1 ", "least  fresh 1", "run copy 3 nil ",
                    "run copy 3 ", "need copy ", "run pick 3 one ", "run pick 3  nil", "need pick  nil", "need pick one "):
            self.refused(NoRow, TEXT, row)
        for row in ("run\tfresh 3", "run\nfresh 3", "run fresh 3\n", "\nrun fresh 3", "run fresh\n3", "run fresh 3\n "):
            self.refused(NoRow, TEXT, row)

    def test_no_such_word(self):
        for row in ("Run fresh 3", "runs fresh 3", "ran fresh 3", "needs fresh", "price fresh 1", "fresh 3", "3", "leas fresh 1",
                    "run", "need", "least", "fresh", "copy nil", "give fresh"):
            self.refused(NoRow, TEXT, row)

    def test_numbers(self):
        for number in ("00", "01", "007", "+1", "-1", "-0", "1000000000", "0000000001", "1.0", "x", "1_0", "1,0", "one", "0x1",
                       "9999999999", "1e3"):
            self.refused(NoRow, TEXT, f"run fresh {number}")
            self.refused(NoRow, TEXT, f"run copy {number} nil")
            self.refused(NoRow, TEXT, f"least fresh {number}")
            self.refused(NoRow, TEXT, f"least loop 1 {number}")

    def test_goals(self):
        small = "kind unit u\ndef f x unit to unit : pay 2 ; give x"
        for number in ("1001", "2000", "999999999", "01000"):
            self.refused(NoRow, small, f"least f {number} 1")
            self.refused(NoRow, small, f"least f 1 {number}")
        self.assertEqual(answer(small, "least f 1000 1000"), "price 2000/1 +2/1")

    def test_functions(self):
        for name in ("none", "unit", "nil", "x", "Copy", "copi", "0", "3", "copy:", "run"):
            self.refused(NoRow, TEXT, f"run {name} 3 nil")
            self.refused(NoRow, TEXT, f"need {name} nil")
            self.refused(NoRow, TEXT, f"least {name} 1 1 1 1 1")
        for row in ("run f 1", "need f", "least f 1"):
            self.refused(NoRow, "", row)
            self.refused(NoRow, "kind unit u", row)

    def test_words_too_few_and_too_many(self):
        for row in ("run fresh", "run fresh 3 nil", "run copy 3", "run copy", "run copy nil", "run copy 3 nil nil",
                    "run pick 3 one", "run pick 3 one nil nil", "need copy", "need copy nil nil", "need fresh nil",
                    "need pick one", "least fresh", "least fresh 1 1", "least copy 1 1 1 1", "least copy 1 1 1 1 1 1",
                    "least loop 1", "least loop 1 1 1"):
            self.refused(NoRow, TEXT, row)

    def test_refused_rows_of_great_programs(self):
        params = " ".join(f"{name} list" for name in "abcd")
        text = TEXT + "".join(f"\ndef h{name} {params} to list : give a" for name in "ab")
        self.refused(NoRow, text, "least ha 1 1")
        self.refused(NoRow, text, "least nowhere 1")
        self.assertEqual(answer(text, "run ha 1 nil nil nil nil"), "gave nil left 1")

    def test_values(self):
        for value in ("one", "Nil", "nil()", "more(one)", "more(one,nil", "more(one,nil))", "more(nil,nil)", "more(one,nil,nil)",
                      "nil,nil", "(nil)", "u", "more(one,,nil)", "0", "nil\n", "more"):
            self.refused(NoValue, TEXT, f"run copy 3 {value}")
            self.refused(NoValue, TEXT, f"need copy {value}")
        self.refused(NoValue, TEXT, "run pick 3 one one")
        self.refused(NoValue, TEXT, "run pick 3 nil nil")
        self.refused(NoRow, TEXT, "run copy 3 more(one, nil)")

    def test_names_like_the_rows_words(self):
        text = "kind run need | least run\ndef run need run to run : give need\ndef least run run to run : pay 1 ; give run"
        self.assertEqual(answer(text, "run run 5 least(need)"), "gave least(need) left 5")
        self.assertEqual(answer(text, "need least need"), "needs 1")
        self.assertEqual(answer(text, "least least 1 1 1"), "price 1/1 +1/1")


class AgainTest(unittest.TestCase):
    def test_asked_again(self):
        for row in ("run copy 4 more(one,nil)", "need copy more(one,nil)", "run loop 1 u"):
            self.assertEqual(answer(TEXT, row), answer(TEXT, row))
            self.assertIs(type(answer(TEXT, row)), str)
        self.assertEqual(answer(RING, "least first 1 1"), answer(RING, "least first 1 1"))


if __name__ == "__main__":
    unittest.main()
