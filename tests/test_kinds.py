"""Kinds and the makers within them: promise 7."""

import random
import unittest

from pursewright.kinds import kind_of_maker, makers_of, within
from pursewright.reader import read

# ring and pair go round through one another, self through itself; far and last can't be come to from others.
# Makers are called like kinds, as they may be.
KINDS = read(
    "\n".join(
        [
            "kind far lone far | odd ring",
            "kind ring nil | join unit pair",
            "kind unit one",
            "kind pair both ring unit | ring unit",
            "kind self self self | stop",
            "kind last fin unit self | unit",
        ]
    )
)[0]


def reached(kinds, kind):
    """Told anew: steps by fields, as often as there are kinds."""
    there = {kind}
    for step in kinds:
        there |= {field for name, makers in kinds if name in there for maker, fields in makers for field in fields}
    return tuple(maker for name, makers in kinds if name in there for maker, fields in makers)


class KindsTest(unittest.TestCase):
    def test_makers_of(self):
        self.assertEqual(makers_of(KINDS, "ring"), (("nil", ()), ("join", ("unit", "pair"))))
        self.assertEqual(makers_of(KINDS, "unit"), (("one", ()),))
        self.assertEqual(makers_of(KINDS, "self"), (("self", ("self",)), ("stop", ())))
        for name, makers in KINDS:
            self.assertEqual(makers_of(KINDS, name), makers)
            self.assertIs(type(makers_of(KINDS, name)), tuple)

    def test_makers_of_a_kind_that_is_not_there(self):
        self.assertEqual(makers_of(KINDS, "nil"), ())
        self.assertEqual(makers_of((), "ring"), ())

    def test_within_itself_alone(self):
        self.assertEqual(within(KINDS, "unit"), ("one",))
        self.assertEqual(within(KINDS, "self"), ("self", "stop"))

    def test_within_goes_round(self):
        self.assertEqual(within(KINDS, "ring"), ("nil", "join", "one", "both", "ring"))
        self.assertEqual(within(KINDS, "pair"), ("nil", "join", "one", "both", "ring"))

    def test_within_is_in_the_programs_order(self):
        self.assertEqual(within(KINDS, "last"), ("one", "self", "stop", "fin", "unit"))
        self.assertEqual(within(KINDS, "far"), ("lone", "odd", "nil", "join", "one", "both", "ring"))

    def test_what_can_not_be_come_to(self):
        for name in ("ring", "unit", "pair", "self"):
            for maker in ("lone", "odd", "fin", "unit"):
                self.assertNotIn(maker, within(KINDS, name))

    def test_tuples_and_asked_again(self):
        for name, makers in KINDS:
            self.assertIs(type(within(KINDS, name)), tuple)
            self.assertEqual(within(KINDS, name), within(KINDS, name))

    def test_kind_of_maker(self):
        for name, makers in KINDS:
            for maker, fields in makers:
                self.assertEqual(kind_of_maker(KINDS, maker), name)

    def test_by_chance(self):
        source = random.Random(4)
        for number in range(500):
            names = ["a", "b", "c", "d", "e", "f"][: source.randint(1, 6)]
            source.shuffle(names)
            kinds = tuple(
                (name, tuple((name + other, self.fields(source, names)) for other in "uvwxyz"[: source.randint(1, 6)]))
                for name in names
            )
            for name, makers in kinds:
                self.assertEqual(within(kinds, name), reached(kinds, name))
                self.assertEqual({kind_of_maker(kinds, maker) for maker, fields in makers}, {name})

    def fields(self, source, names):
        return tuple(source.choice(names) for _ in range(source.choice((0, 0, 0, 1, 1, 2, 4))))


if __name__ == "__main__":
    unittest.main()
