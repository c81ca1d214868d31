"""Looking a program through: promise 8."""

import random
import unittest

from pursewright.errors import NoProgram
from pursewright.reader import read
from pursewright.sound import look
from tests.helper import LIST_TEXT, Chance, SoundChance, first_wrong_row, text_of, widest_program

KINDS = "kind a one | two a\nkind b nil | more a b\nkind c lone"
HELP = "def mix x a y b to b : give y\ndef back x b to a : let o make one ; give o\ndef none to c : let l make lone ; give l"


def faults(program):
    """The faults in the document's order, told anew; only the first one told is worth anything."""
    kinds, functions = program
    names = [kind for kind, makers in kinds]
    yield from twice(names)
    makers = [(kind,) + maker for kind, own in kinds for maker in own]
    for number, (kind, maker, fields) in enumerate(makers):
        if maker in [other[1] for other in makers[:number]]:
            yield ("twice", maker)
        yield from (("unknown", field) for field in fields if field not in names)
    yield from twice([function[0] for function in functions])
    for name, params, kind, body in functions:
        for number, (param, of) in enumerate(params):
            if param in [other for other, _ in params[:number]]:
                yield ("twice", param)
            if of not in names:
                yield ("unknown", of)
        if kind not in names:
            yield ("unknown", kind)
        yield from body_faults(program, kind, body, params)


def twice(names):
    return (("twice", name) for number, name in enumerate(names) if name in names[:number])


def body_faults(program, gives, piece, bound):
    """Bound is a tuple of (name, kind)."""
    table = dict(bound)
    word = piece[0]
    if word in ("pay", "get"):
        yield from body_faults(program, gives, piece[2], bound)
        return
    used = piece[3] if word in ("make", "call") else piece[2:3] if word == "name" else piece[1:2]
    yield from (("unknown", name) for name in used if name not in table)
    if word == "give":
        if table[used[0]] != gives:
            yield ("kind", used[0])
    elif word == "case":
        yield from case_faults(program, gives, piece, bound)
    else:
        due, made = (None, table[used[0]]) if word == "name" else signature(program, word, piece[2])
        if made is None:
            yield ("unknown", piece[2])
        if due is not None:
            if len(due) != len(used):
                yield ("count", piece[2])
            yield from (("kind", name) for name, of in zip(used, due) if table[name] != of)
        if piece[1] in table:
            yield ("twice", piece[1])
        yield from body_faults(program, gives, piece[-1], bound + ((piece[1], made),))


def signature(program, word, name):
    if word == "make":
        found = [(fields, kind) for kind, makers in program[0] for maker, fields in makers if maker == name]
    else:
        found = [([of for _, of in params], kind) for own, params, kind, body in program[1] if own == name]
    return found[0] if found else (None, None)


def case_faults(program, gives, piece, bound):
    makers = dict(program[0]).get(dict(bound)[piece[1]], ())
    if [maker for maker, fields in makers] != [maker for maker, names, body in piece[2]]:
        yield ("arms", piece[1])
    for (maker, fields), (own, names, body) in zip(makers, piece[2]):
        if len(fields) != len(names):
            yield ("count", maker)
        inner = bound
        for name, of in zip(names, fields):
            if name in dict(inner):
                yield ("twice", name)
            inner += ((name, of),)
        yield from body_faults(program, gives, body, inner)


class Looking(unittest.TestCase):
    def sound(self, text):
        self.assertIs(look(read(text)), True)

    def refused(self, text, word, name):
        for time in range(2):
            with self.assertRaises(NoProgram, msg=text) as taken:
                look(read(text))
            self.assertEqual((taken.exception.word, taken.exception.name), (word, name), text)

    def body(self, body, word=None, name=None):
        """A body of a function x a, y b, z c to a, ahead of functions that it may call."""
        text = f"{KINDS}\ndef main x a y b z c to a : {body}\n{HELP}"
        if word is None:
            self.sound(text)
        else:
            self.refused(text, word, name)


class SoundTest(Looking):
    def test_without_both(self):
        self.sound("")

    def test_without_functions(self):
        self.sound(KINDS)
        self.sound("kind a b b\nkind b a a")

    def test_ordinary(self):
        self.sound(LIST_TEXT)
        self.sound(KINDS + "\n" + HELP)

    def test_each_piece(self):
        for body in (
            "give x",
            "let o make one ; give o",
            "let o make two x ; give o",
            "let m make more x y ; give x",
            "let m call mix x y ; give x",
            "let m call back y ; give m",
            "let n call none ; give x",
            "let w name x ; give w",
            "let w name y ; let v call mix x w ; give x",
            "pay 1 ; get 2 ; give x",
            "case x one : give x | two w : give w end",
            "case y nil : give x | more w v : give w end",
            "case z lone : give x end",
        ):
            self.body(body)

    def test_a_name_is_bound_again_in_another_arm(self):
        self.body("case x one : let w make one ; give w | two w : give w end")
        self.body("case y nil : case x one : give x | two v : give v end | more w v : let u make two w ; give u end")
        self.body("case x one : let w name x ; give w | two v : let w name v ; give w end")

    def test_a_name_used_twice(self):
        self.sound("kind a one | both a a\ndef f x a to a : let y make both x x ; give y")

    def test_calls_of_itself_and_of_later_functions(self):
        self.body("let w call main x y z ; give w")
        self.sound("kind a one\ndef f x a to a : let y call g x ; give y\ndef g x a to a : let y call f x ; give y")

    def test_names_that_are_alike(self):
        self.sound("kind a a | b a\ndef a a a to a : case a a : give a | b b : let c call a b ; give c end")
        self.sound("kind x x\nkind y y x\ndef x y x to y : let x make y y ; give x\ndef y x x to x : give x")

    def test_the_bounds(self):
        self.assertIs(look(widest_program()), True)

    def test_far_deeper_than_the_bounds(self):
        body = "".join(f"let {name} name x ; case x o : pay 1 ; " for name in self.many())
        self.sound("kind a o\ndef f x a to a : " + body + "give x" + " end" * 676)

    def many(self):
        return ["q" + first + second for first in "abcdefghijklmnopqrstuvwxyz" for second in "abcdefghijklmnopqrstuvwxyz"]


class RefusedTest(Looking):
    def test_kinds_twice(self):
        self.refused("kind a b\nkind a c", "twice", "a")
        self.refused("kind a b\nkind c d\nkind e f\nkind c g\nkind a h", "twice", "c")

    def test_makers_twice(self):
        self.refused("kind a b | c | b", "twice", "b")
        self.refused("kind a b\nkind c d | b", "twice", "b")

    def test_fields_unknown(self):
        self.refused("kind a b c", "unknown", "c")
        self.refused("kind a b a | c a b d", "unknown", "b")
        self.refused("kind a b\nkind c d a e", "unknown", "e")

    def test_order_of_kinds(self):
        self.refused("kind a b zz | b\nkind a c", "twice", "a")
        self.refused("kind a b zz | b", "unknown", "zz")
        self.refused("kind a b | b zz", "twice", "b")
        self.refused("kind a b\nkind c b zz\nkind d e yy", "twice", "b")
        self.refused("kind a b\nkind c d zz\nkind e b", "unknown", "zz")
        self.refused("kind a b zz\ndef f to a : give x\ndef f to a : give x", "unknown", "zz")

    def test_functions_twice(self):
        self.refused("kind a b\ndef f x a to a : give x\ndef f x a to a : give x", "twice", "f")

    def test_functions_names_ahead_of_the_first_params(self):
        self.refused(
            "kind a b\ndef f x zz x a to yy : give q\ndef g x a to a : give x\ndef h to a : give x\ndef g to a : give x",
            "twice",
            "g",
        )

    def test_params(self):
        self.refused("kind a b\ndef f x a x a to a : give x", "twice", "x")
        self.refused("kind a b\ndef f x a y b to a : give x", "unknown", "b")
        self.refused("kind a b\ndef f x a y a to b : give x", "unknown", "b")
        self.refused("kind a b\ndef f x zz x a to yy : give q", "unknown", "zz")
        self.refused("kind a b\ndef f x a x zz to yy : give q", "twice", "x")
        self.refused("kind a b\ndef f x a y zz x a to yy : give q", "unknown", "zz")
        self.refused("kind a b\ndef f x a to yy : give q", "unknown", "yy")
        self.refused("def f to a : give x", "unknown", "a")

    def test_function_by_function(self):
        self.refused("kind a b\ndef f x a to a : give q\ndef g x zz to a : give x", "unknown", "q")
        self.refused("kind a b\ndef f x a to a : give x\ndef g x zz to yy : give r", "unknown", "zz")

    def test_names_unknown(self):
        for body in (
            "give q",
            "let w make two q ; give x",
            "let w make more x q ; give x",
            "let w make more q r ; give x",
            "let w call mix x q ; give x",
            "let w call back q ; give x",
            "let w name q ; give x",
            "case q one : give x | two w : give w end",
            "pay 1 ; give q",
            "get 1 ; give q",
            "let w make one ; give q",
            "let w call none ; give q",
            "let w name x ; give q",
            "case x one : give q | two w : give r end",
            "case x one : give x | two w : give q end",
        ):
            self.body(body, "unknown", "q")

    def test_names_of_other_sorts_are_unknown_as_values(self):
        for name in ("one", "a", "main", "mix"):
            self.body("give " + name, "unknown", name)

    def test_names_bound_elsewhere(self):
        self.body("let w make two w ; give w", "unknown", "w")
        self.body("let w call back w ; give w", "unknown", "w")
        self.body("let w name w ; give w", "unknown", "w")
        self.body("case w one : give x | two w : give w end", "unknown", "w")
        self.body("let v make two w ; let w make one ; give v", "unknown", "w")
        self.body("case x one : give w | two w : give w end", "unknown", "w")
        self.body("case x one : let w make one ; give w | two v : give w end", "unknown", "w")
        self.body("case z lone : case y nil : give x | more v w : give v end end", None)
        self.body("case y nil : give w | more v w : give v end", "unknown", "w")

    def test_makers_and_functions_unknown(self):
        self.body("let w make mm ; give x", "unknown", "mm")
        self.body("let w make mm x ; give x", "unknown", "mm")
        self.body("let w make mix x y ; give x", "unknown", "mix")
        self.body("let w make a ; give x", "unknown", "a")
        self.body("let w call ff x ; give x", "unknown", "ff")
        self.body("let w call one ; give x", "unknown", "one")

    def test_names_used_ahead_of_the_maker_or_function(self):
        self.body("let x make mm x q r ; give x", "unknown", "q")
        self.body("let x call ff q x ; give x", "unknown", "q")

    def test_maker_or_function_ahead_of_the_name_bound(self):
        self.body("let x make mm y ; give q", "unknown", "mm")
        self.body("let x call ff y ; give q", "unknown", "ff")

    def test_count(self):
        for names in ("", " x", " x y x", " y", " x y z x"):
            self.body("let w make more" + names + " ; give x", "count", "more")
            self.body("let w call mix" + names + " ; give x", "count", "mix")
        self.body("let w make one x ; give x", "count", "one")
        self.body("let w call none z ; give x", "count", "none")

    def test_names_used_ahead_of_count(self):
        self.body("let w make one q ; give x", "unknown", "q")
        self.body("let w call mix y z q ; give x", "unknown", "q")

    def test_count_ahead_of_kind_and_twice(self):
        self.body("let x make more y ; give q", "count", "more")
        self.body("let x call mix z z z ; give q", "count", "mix")

    def test_kind(self):
        self.body("give y", "kind", "y")
        self.body("let w make two y ; give w", "kind", "y")
        self.body("let w make more x z ; give x", "kind", "z")
        self.body("let w make more z x ; give x", "kind", "z")
        self.body("let w call mix x z ; give x", "kind", "z")
        self.body("let w call mix y x ; give x", "kind", "y")
        self.body("let w call back x ; give x", "kind", "x")
        self.body("let w make more x y ; give w", "kind", "w")
        self.body("let w call mix x y ; give w", "kind", "w")
        self.body("let w name z ; give w", "kind", "w")
        self.body("case y nil : give x | more v w : give w end", "kind", "w")
        self.body("case y nil : give y | more v w : give v end", "kind", "y")

    def test_kind_ahead_of_twice(self):
        self.body("let x make two y ; give q", "kind", "y")
        self.body("let y call back x ; give q", "kind", "x")

    def test_twice(self):
        self.body("let x make one ; give x", "twice", "x")
        self.body("let w make one ; let w make one ; give w", "twice", "w")
        self.body("let y call back y ; give x", "twice", "y")
        self.body("let z name x ; give x", "twice", "z")
        self.body("let x name x ; give x", "twice", "x")
        self.body("let w name x ; pay 1 ; let w call none ; give x", "twice", "w")
        self.body("case x one : give x | two w : let w make one ; give w end", "twice", "w")
        self.body("let w make one ; case x one : let w make one ; give w | two v : give v end", "twice", "w")

    def test_name_uses_ahead_of_what_it_binds(self):
        self.body("let x name q ; give x", "unknown", "q")

    def test_twice_ahead_of_what_is_beneath(self):
        self.body("let x make one ; give q", "twice", "x")

    def test_arms(self):
        for arms in (
            "one : give x",
            "two w : give w",
            "two w : give w | one : give x",
            "one : give x | two w : give w | one : give x",
            "one : give x | one : give x",
            "one : give x | nil : give x",
            "one : give x | mm : give x",
            "nil : give x | more v w : give v",
        ):
            self.body(f"case x {arms} end", "arms", "x")
        self.body("case z one : give x end", "arms", "z")

    def test_order_within_a_case(self):
        self.body("case q one : give r end", "unknown", "q")
        self.body("case x two w v : give q | one x : give q end", "arms", "x")
        self.body("case x one w : give q | two w v : give r end", "count", "one")
        self.body("case x one : give q | two w v : give r end", "unknown", "q")
        self.body("case x one : give y | two : give r end", "kind", "y")
        self.body("case x one : case y nil : give x | more v w : give q end | two : give x end", "unknown", "q")
        self.body("case x one : give x | two x : give q end", "twice", "x")
        self.body("case x one : give x | two w v : give q end", "count", "two")
        self.body("case x one : give x | two : give q end", "count", "two")
        self.body("case y nil : give x | more x x x : give q end", "count", "more")

    def test_names_in_an_arms_head(self):
        self.body("case y nil : give x | more w w : give x end", "twice", "w")
        self.body("case y nil : give x | more y x : give x end", "twice", "y")
        self.body("case y nil : give x | more w x : give x end", "twice", "x")
        self.body("case y nil : give x | more x w : give x end", "twice", "x")
        self.body("let w make one ; case x one : give x | two w : give w end", "twice", "w")

    def test_what_a_later_function_tells(self):
        later = "def later x zz to yy : give x"
        self.refused(f"kind a b\ndef f x a to a : let y call later x ; give y\n{later}", "kind", "x")
        self.refused("kind a b\ndef f x a to a : let y call g ; give y\ndef g to yy : give x", "kind", "y")
        self.refused("kind a b\ndef f x a to a : let y call g ; give x\ndef g to yy : give x", "unknown", "yy")
        self.refused(
            "kind a b\ndef f x a to a : let y call g ; case y b : give x end\ndef g to yy : give x", "arms", "y"
        )
        self.refused(
            "kind a b\ndef f x a to a : let y call g ; let z call h y ; give x\ndef g to yy : give x\ndef h x yy to a : give x",
            "unknown",
            "yy",
        )
        self.refused(
            "kind a b\ndef f x a to a : let y call g x ; give y\ndef g x a x a to a : give x", "count", "g"
        )

    def test_params_names_are_not_bound_in_other_functions(self):
        self.refused("kind a b\ndef f x a to a : give x\ndef g to a : give x", "unknown", "x")


class ByChanceTest(Looking):
    def agrees(self, program):
        fault = next(faults(program), None)
        if fault is None:
            self.assertIs(look(program), True)
        else:
            self.refused(text_of(program), fault[0], fault[1])
        return fault

    def test_any_program_of_the_form(self):
        chance = Chance(random.Random(5))
        for number in range(500):
            self.agrees(chance.program())

    def test_sound_programs_and_such_with_words_put_otherwise(self):
        source = random.Random(6)
        chance = SoundChance(source)
        met = {}
        for number in range(6000):
            words = text_of(chance.program()).split(" ")
            for change in range(source.choice((0, 1, 1, 2, 3))):
                self.change(source, words)
            text = " ".join(words)
            if first_wrong_row(text) is None:
                fault = self.agrees(read(text))
                word = fault and fault[0]
                met[word] = met.get(word, 0) + 1
        self.assertEqual(set(met), {None, "twice", "unknown", "count", "kind", "arms"})
        self.assertGreater(min(met.values()), 50, met)

    def change(self, source, words):
        """Puts another name for one, or one more, or takes one out."""
        place = source.choice([place for place, word in enumerate(words) if len(word) == 1 and word.isalpha()])
        name = source.choice("abcdefghi")
        words[place : place + 1] = source.choice(([name], [name], [words[place], name], []))


if __name__ == "__main__":
    unittest.main()
