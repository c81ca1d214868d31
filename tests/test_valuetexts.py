"""The texts of values: promise 10."""

import random
import re
import unittest

from pursewright.errors import NoValue
from pursewright.reader import read
from pursewright.values import is_value, size
from pursewright.valuetexts import read_value, show_value
from tests.helper import chance_value, nested

KINDS = read(
    "kind item one | two item | six\nkind list nil | more item list\n"
    "kind pair both list item pair | lone | all item list item item"
)[0]
NIL = ("nil", ())
ONE = ("one", ())
TWO = ("two", (ONE,))
SIX = ("six", ())
LIST = ("more", (TWO, ("more", (ONE, NIL))))
TEXTS = (
    ("item", ONE, "one"),
    ("item", TWO, "two(one)"),
    ("item", ("two", (("two", (SIX,)),)), "two(two(six))"),
    ("list", NIL, "nil"),
    ("list", ("more", (ONE, NIL)), "more(one,nil)"),
    ("list", LIST, "more(two(one),more(one,nil))"),
    ("pair", ("lone", ()), "lone"),
    ("pair", ("both", (LIST, SIX, ("lone", ()))), "both(more(two(one),more(one,nil)),six,lone)"),
    ("pair", ("all", (ONE, NIL, TWO, SIX)), "all(one,nil,two(one),six)"),
)


def kind_told(kinds, text):
    """Told anew: the kind of the value that the text writes, by folding from the inside out; None of others."""
    made = {maker: (kind, list(fields)) for kind, makers in kinds for maker, fields in makers}
    if re.search("[^a-z(),]", text):
        return None
    while True:
        found = re.search("([a-z]+)(?:[(]([A-Z,]*)[)]|(?![a-z(]))", text)
        if not found:
            break
        maker, parts = found.groups()
        kinds_of_parts = [] if parts is None else parts.lower().split(",")
        if maker not in made or made[maker][1] != kinds_of_parts:
            return None
        text = text[: found.start()] + made[maker][0].upper() + text[found.end() :]
    return text.lower() if text.lower() in dict(kinds) else None


def text_told(value):
    return value[0] + ("(" + ",".join(text_told(part) for part in value[1]) + ")" if value[1] else "")


def two_hundred():
    value = ("nil", ())
    for number in range(99):
        value = ("more", (ONE, value))
    return ("both", (value, ONE, ("lone", ())))


class ShowTest(unittest.TestCase):
    def test_texts(self):
        for kind, value, text in TEXTS:
            self.assertEqual(show_value(value), text)
            self.assertIs(type(show_value(value)), str)

    def test_by_chance_told_anew(self):
        source = random.Random(10)
        for number in range(300):
            kind = source.choice(("item", "list", "pair"))
            value = chance_value(source, KINDS, kind, source.randint(1, 9))
            self.assertEqual(show_value(value), text_told(value))


class ReadTest(unittest.TestCase):
    def refused(self, kind, text):
        with self.assertRaises(NoValue, msg=(kind, text)):
            read_value(KINDS, kind, text)

    def test_texts(self):
        for kind, value, text in TEXTS:
            told = read_value(KINDS, kind, text)
            self.assertEqual(told, value)
            self.assertTrue(is_value(KINDS, kind, told))
            for other in ("item", "list", "pair"):
                if other != kind:
                    self.refused(other, text)

    def test_what_is_shown_is_read_back(self):
        source = random.Random(11)
        for number in range(500):
            kind = source.choice(("item", "list", "pair"))
            value = chance_value(source, KINDS, kind, source.randint(1, 12))
            told = read_value(KINDS, kind, show_value(value))
            self.assertEqual(told, value)
            self.assertTrue(is_value(KINDS, kind, told))

    def test_two_hundred_makers_and_sixty_within_one_another(self):
        for kind, value in (("pair", two_hundred()), ("item", nested("two", ONE, 59)), ("item", nested("two", SIX, 3000))):
            text = show_value(value)
            self.assertEqual(show_value(read_value(KINDS, kind, text)), text)
            self.assertEqual(size(read_value(KINDS, kind, text)), size(value))
        self.assertGreaterEqual(size(two_hundred()), 200)
        self.assertEqual(read_value(KINDS, "pair", show_value(two_hundred())), two_hundred())

    def test_no_signs_and_lone_signs(self):
        for kind in ("item", "list", "pair", "none"):
            for text in ("", "(", ")", ",", "()", ",,", "(,)", ")(", " ", "\n", "((", "))", "(one)", "((one))", "(one", "one)"):
                self.refused(kind, text)

    def test_signs_that_are_none_of_a_values(self):
        for kind, value, text in TEXTS:
            for sign in [chr(code) for code in range(32, 127) if chr(code) not in "abcdefghijklmnopqrstuvwxyz%"] + ["\n"]:
                for place in range(len(text) + 1):
                    self.refused(kind, text[:place] + sign + text[place:])

    def test_great_letters(self):
        for text in ("One", "ONE", "onE", "two(One)", "Two(one)", "TWO(ONE)"):
            self.refused("item", text)

    def test_brackets(self):
        for text in ("one()", "two(one))", "two((one)", "two(one", "two one", "two", "two()", "two(())", "two((one))", "two(one())",
                     "two(one)()", "two)one(", "(two(one))", "two(two(one)", "two(two)one(", "two(two(one)))", "two[one]", "twoone",
                     "two(one)two(one)", "two(one)one", "onetwo(one)", "one(two)", "two(onesix)", "two(one)(six)", "six(one)"):
            self.refused("item", text)

    def test_commas(self):
        for text in ("more(one,nil,)", "more(,one,nil)", "more(one,,nil)", "more(onenil)", "more(one nil)", ",more(one,nil)",
                     "more(one,nil),", "more,(one,nil)", "more(one),nil", "more(one)nil", "more(one)(nil)", "nil,nil", "nil,",
                     ",nil", "more(one,nil),nil", "more(one,more(one,nil)nil)", "more(two(one)nil)", "more(two(one),,nil)",
                     "more(two(one,),nil)", "more(two(,one),nil)", "more(one.nil)", "more(one;nil)"):
            self.refused("list", text)

    def test_a_part_more_or_fewer(self):
        for text in ("more", "more(one)", "more(nil)", "more(one,nil,nil)", "more(one,one,nil)", "nil(one)", "nil(nil)",
                     "more(two,nil)", "more(two(one,one),nil)", "more(one,more(one))", "more(one(one),nil)"):
            self.refused("list", text)
        for text in ("all(one,nil,one)", "all(one,nil,one,one,one)", "all", "both(nil,one)", "both(nil,one,lone,lone)"):
            self.refused("pair", text)

    def test_makers_and_parts_of_other_kinds(self):
        for text in ("one", "two(one)", "lone", "less", "more(nil,one)", "more(nil,nil)", "more(one,one)", "more(lone,nil)",
                     "more(less,nil)", "more(one,less)", "less(one,nil)", "list", "item", "mores(one,nil)", "mor(one,nil)"):
            self.refused("list", text)
        for kind in ("none", "one", "nil", ""):
            self.refused(kind, "one")
        with self.assertRaises(NoValue):
            read_value((), "item", "one")

    def test_many_brackets(self):
        for often in (1, 2, 30, 59, 60, 2000):
            opened = "two(" * often
            self.assertEqual(show_value(read_value(KINDS, "item", opened + "one" + ")" * often)), opened + "one" + ")" * often)
            for text in (opened, opened + "one", opened + "one" + ")" * (often - 1), opened + "one" + ")" * (often + 1),
                         "(" * often, ")" * often, "(" * often + ")" * often, opened + ")" * often, opened + "nil" + ")" * often,
                         opened + "two" + ")" * often, opened + "one," + ")" * often, "one" + ")" * often, "," * often,
                         opened + "one" + ")" * often + "one", "two" * often + "one", ")" * often + "(" * often):
                if text != "":
                    self.refused("item", text)

    def test_one_sign_otherwise_by_chance(self):
        source = random.Random(12)
        tried = {True: 0, False: 0}
        for number in range(6000):
            text = list(source.choice(TEXTS)[2])
            for change in range(source.randint(1, 2)):
                place = source.randrange(len(text) + 1)
                text[place : place + source.randint(0, 4)] = source.choice(("", "(", ")", ",", "one", "nil", "six", "x", "),", "one,"))
            text = "".join(text)
            for kind in ("item", "list", "pair"):
                due = kind_told(KINDS, text) == kind
                tried[due] += 1
                if due:
                    self.assertEqual(show_value(read_value(KINDS, kind, text)), text)
                else:
                    self.refused(kind, text)
        self.assertGreater(tried[True], 100)
        self.assertGreater(tried[False], 2000)

    def test_makers_called_like_kinds(self):
        kinds = read("kind a b | c a\nkind b a | d b a")[0]
        self.assertEqual(read_value(kinds, "a", "c(c(b))"), ("c", (("c", (("b", ()),)),)))
        self.assertEqual(read_value(kinds, "b", "d(a,b)"), ("d", (("a", ()), ("b", ()))))
        for kind, text in (("a", "a"), ("b", "b"), ("a", "c(a)"), ("b", "d(b,a)")):
            with self.assertRaises(NoValue):
                read_value(kinds, kind, text)


if __name__ == "__main__":
    unittest.main()
