"""All values of a size, and inputs: promises 9 and 11."""

import itertools
import random
import unittest

from pursewright.inputs import inputs, values_of
from pursewright.reader import read
from pursewright.values import is_value, size
from tests.helper import SoundChance

KINDS = read(
    "\n".join(
        [
            "kind item one | two item | six",
            "kind list nil | more item list",
            "kind void deep void | wide item void",
            "kind half left other | stop",
            "kind other right half half | turn void",
            "kind num zero | succ num",
        ]
    )
)[0]
NIL = ("nil", ())
ONE = ("one", ())
SIX = ("six", ())


def two(value):
    return ("two", (value,))


def more(first, rest):
    return ("more", (first, rest))


def all_told(kinds, kind, number):
    """Told anew, in order: makers in order, then all tuples of parts, sorted by themselves."""
    told = []
    for maker, fields in dict(kinds)[kind]:
        told.extend((maker, parts) for parts in tuples_told(kinds, fields, number - 1))
    return told


def tuples_told(kinds, some, number):
    if not some:
        return [()] if number == 0 else []
    told = []
    for first in range(1, number + 1):
        for value in all_told(kinds, some[0], first):
            told.extend((value,) + rest for rest in tuples_told(kinds, some[1:], number - first))
    return sorted(told, key=lambda values: [place(kinds, value) for value in values])


def place(kinds, value):
    """A tuple by which values of one kind are in order, with a layer for each part."""
    for kind, makers in kinds:
        names = [maker for maker, fields in makers]
        if value[0] in names:
            return (names.index(value[0]), tuple(place(kinds, part) for part in value[1]))


class ValuesOfTest(unittest.TestCase):
    def test_size_nought(self):
        for kind, makers in KINDS:
            self.assertEqual(values_of(KINDS, kind, 0), [])

    def test_in_order(self):
        self.assertEqual(values_of(KINDS, "item", 1), [ONE, SIX])
        self.assertEqual(values_of(KINDS, "item", 2), [two(ONE), two(SIX)])
        self.assertEqual(values_of(KINDS, "list", 1), [NIL])
        self.assertEqual(values_of(KINDS, "list", 2), [])
        self.assertEqual(values_of(KINDS, "list", 3), [more(ONE, NIL), more(SIX, NIL)])
        self.assertEqual(values_of(KINDS, "list", 4), [more(two(ONE), NIL), more(two(SIX), NIL)])
        # The first part tells, whatever its size.
        self.assertEqual(
            values_of(KINDS, "list", 5),
            [more(ONE, more(ONE, NIL)), more(ONE, more(SIX, NIL)), more(two(two(ONE)), NIL), more(two(two(SIX)), NIL),
             more(SIX, more(ONE, NIL)), more(SIX, more(SIX, NIL))],
        )

    def test_one_value_of_a_size(self):
        value = ("zero", ())
        for number in range(1, 11):
            self.assertEqual(values_of(KINDS, "num", number), [value])
            value = ("succ", (value,))

    def test_kinds_without_values(self):
        for number in range(11):
            self.assertEqual(values_of(KINDS, "void", number), [])
        ring = read("kind a b c\nkind c d a | e c")[0]
        for kind in ("a", "c"):
            self.assertEqual([values_of(ring, kind, number) for number in range(11)], [[]] * 11)

    def test_kinds_through_one_another(self):
        self.assertEqual(values_of(KINDS, "half", 1), [("stop", ())])
        self.assertEqual(values_of(KINDS, "other", 3), [("right", (("stop", ()), ("stop", ())))])
        self.assertEqual(values_of(KINDS, "half", 4), [("left", (("right", (("stop", ()), ("stop", ()))),))])
        self.assertEqual(len(values_of(KINDS, "half", 7)), 2)

    def test_just_all_of_them(self):
        for kind, most in (("item", 8), ("list", 8), ("void", 6), ("half", 10), ("other", 10), ("num", 10)):
            for number in range(most + 1):
                told = values_of(KINDS, kind, number)
                self.assertIs(type(told), list)
                self.assertEqual(told, all_told(KINDS, kind, number))
                self.assertEqual(len(told), len(set(told)))
                for value in told:
                    self.assertTrue(is_value(KINDS, kind, value))
                    self.assertEqual(size(value), number)

    def test_a_kind_that_is_not_there(self):
        self.assertEqual(values_of(KINDS, "none", 1), [])
        self.assertEqual(values_of((), "item", 3), [])

    def test_what_is_told_may_be_changed(self):
        first = values_of(KINDS, "list", 5)
        kept = list(first)
        first.clear()
        self.assertEqual(values_of(KINDS, "list", 5), kept)


class InputsTest(unittest.TestCase):
    def test_no_kinds(self):
        self.assertEqual(inputs(KINDS, (), 0), [()])
        for number in range(1, 11):
            self.assertEqual(inputs(KINDS, (), number), [])
        self.assertEqual(inputs((), (), 0), [()])

    def test_one_kind(self):
        for kind, makers in KINDS:
            for number in range(8):
                self.assertEqual(inputs(KINDS, (kind,), number), [(value,) for value in values_of(KINDS, kind, number)])

    def test_the_same_kind_twice(self):
        self.assertEqual(inputs(KINDS, ("item", "item"), 0), [])
        self.assertEqual(inputs(KINDS, ("item", "item"), 1), [])
        self.assertEqual(inputs(KINDS, ("item", "item"), 2), [(ONE, ONE), (ONE, SIX), (SIX, ONE), (SIX, SIX)])
        self.assertEqual(
            inputs(KINDS, ("item", "item"), 3),
            [(ONE, two(ONE)), (ONE, two(SIX)), (two(ONE), ONE), (two(ONE), SIX), (two(SIX), ONE), (two(SIX), SIX),
             (SIX, two(ONE)), (SIX, two(SIX))],
        )

    def test_kinds_without_values(self):
        for some in (("void",), ("void", "item"), ("item", "void"), ("item", "void", "list"), ("num", "num", "num", "void")):
            for number in range(11):
                self.assertEqual(inputs(KINDS, some, number), [])

    def test_many_begun_that_can_not_be_filled_up(self):
        wide = read("kind big " + " | ".join("m" + letter for letter in "abcdefghijklmnopqrstuvwxyz") + "\nkind void v void")[0]
        for some in itertools.permutations(("big", "big", "big", "void")):
            self.assertEqual(inputs(wide, some, 10), [])
        field = read("kind big " + " | ".join("m" + letter for letter in "abcdefghijklmnopqrstuvwxyz")
                     + "\nkind void v void\nkind all one big big big void | few big")[0]
        self.assertEqual([len(values_of(field, "all", number)) for number in range(11)], [0, 0, 26] + [0] * 8)

    def test_several_kinds(self):
        cases = (("item", "list"), ("list", "item"), ("num", "list", "num"), ("item", "num", "half"), ("half", "other"),
                 ("num", "num", "num", "num"), ("list", "list"))
        for some in cases:
            for number in range(8):
                told = inputs(KINDS, some, number)
                self.assertEqual(told, tuples_told(KINDS, some, number))
                self.assertEqual(len(told), len(set(told)))
                for values in told:
                    self.assertIs(type(values), tuple)
                    self.assertEqual(sum(size(value) for value in values), number)

    def test_the_first_value_tells_then_the_second(self):
        told = inputs(KINDS, ("num", "item"), 4)
        zero = ("zero", ())
        self.assertEqual(told[0], (zero, two(two(ONE))))
        self.assertEqual(told[1], (zero, two(two(SIX))))
        self.assertEqual([values[0] for values in told], sorted((values[0] for values in told), key=size))

    def test_ten_makers(self):
        self.assertEqual(len(inputs(KINDS, ("num", "num", "num"), 10)), 36)
        self.assertEqual(len(inputs(KINDS, ("item", "num"), 10)), 18)
        self.assertEqual(inputs(KINDS, ("half", "half"), 10), tuples_told(KINDS, ("half", "half"), 10))

    def test_by_chance(self):
        source = random.Random(9)
        told = 0
        for number in range(400):
            kinds = SoundChance(source).program()[0]
            some = tuple(source.choice(kinds)[0] for kind in range(source.randint(0, 3)))
            for number in range(6):
                due = tuples_told(kinds, some, number)
                if len(due) <= 400:
                    told += len(due)
                    self.assertEqual(inputs(kinds, some, number), due)
        self.assertGreater(told, 400)

    def test_what_is_told_may_be_changed(self):
        for some, number in (((), 0), (("item", "list"), 4)):
            first = inputs(KINDS, some, number)
            kept = list(first)
            first.append(None)
            first.reverse()
            self.assertEqual(inputs(KINDS, some, number), kept)
            self.assertIsNot(inputs(KINDS, some, number), inputs(KINDS, some, number))


if __name__ == "__main__":
    unittest.main()
