"""Values: promise 9."""

import random
import unittest

from pursewright.reader import read
from pursewright.values import counts, depth, is_value, key, size
from tests.helper import chance_value, nested

KINDS = read("kind item one | two item | six\nkind list nil | more item list\nkind pair both list item pair | lone")[0]
NIL = ("nil", ())
ONE = ("one", ())
TWO = ("two", (ONE,))
LIST = ("more", (TWO, ("more", (ONE, NIL))))
PAIR = ("both", (LIST, TWO, ("both", (NIL, ONE, ("lone", ())))))


def values(kinds, kind, depth):
    """Values of the kind, of few makers within one another, told anew; sorted as the document has it."""
    told = []
    for maker, fields in dict(kinds)[kind] if depth else ():
        tuples = [()]
        for field in fields:
            tuples = [parts + (part,) for parts in tuples for part in values(kinds, field, depth - 1)]
        told.extend((maker, parts) for parts in tuples)
    return told


def makers_told(value):
    return [value[0]] + [maker for part in value[1] for maker in makers_told(part)]


def paths(thing):
    """The places in a thing of tuples, as tuples of numbers."""
    yield ()
    if isinstance(thing, tuple):
        for number, part in enumerate(thing):
            for path in paths(part):
                yield (number,) + path


def at(thing, path):
    for number in path:
        thing = thing[number]
    return thing


def put(thing, path, other):
    if not path:
        return other
    return thing[: path[0]] + (put(thing[path[0]], path[1:], other),) + thing[path[0] + 1 :]


def is_one(kinds, kind, thing):
    """Told anew, by recursion."""
    if type(thing) is not tuple or len(thing) != 2 or type(thing[0]) is not str or type(thing[1]) is not tuple:
        return False
    fields = dict(dict(kinds).get(kind, ())).get(thing[0])
    if fields is None or len(fields) != len(thing[1]):
        return False
    return all(is_one(kinds, field, part) for field, part in zip(fields, thing[1]))


def others(thing):
    """What may stand at a thing's place instead."""
    told = ["one", "nil", "six", "", "x", 0, 1, -5, True, False, None, [], (), NIL, ONE, TWO, LIST, [ONE], (ONE,), ("one",)]
    told += [[thing], (thing,), ("one", ONE), ("one", []), (None, ()), (["one"], ()), (("one",), ()), ("one", (), ())]
    if isinstance(thing, tuple):
        told += [list(thing), thing + (ONE,), thing + ((),), thing[:-1], thing[1:], thing[::-1], thing + (None,)]
    return told


class IsValueTest(unittest.TestCase):
    def yes(self, kind, thing):
        self.assertIs(is_value(KINDS, kind, thing), True, (kind, thing))

    def no(self, kind, thing):
        self.assertIs(is_value(KINDS, kind, thing), False, (kind, thing))

    def test_values(self):
        for kind, thing in (("item", ONE), ("item", TWO), ("item", ("six", ())), ("list", NIL), ("list", LIST),
                            ("pair", PAIR), ("pair", ("lone", ()))):
            self.yes(kind, thing)
            for other in ("item", "list", "pair"):
                if other != kind:
                    self.no(other, thing)

    def test_a_kind_that_is_not_there(self):
        for thing in (ONE, NIL, (), None):
            self.no("one", thing)
            self.assertIs(is_value((), "item", thing), False)

    def test_no_values(self):
        for thing in ((), ("one",), ("one", (), ()), ["one", ()], ("one", []), ["one", []], "one", "", 0, 1, True,
                      False, None, [], ("one", None), ("one", ""), ("one", "a"), ("one", 0), (None, ()), (0, ()),
                      (True, ()), ("", ()), ("none", ()), ("nil", ()), ((), ("one",)), (("one",), ()), (["one"], ()),
                      ("two", ()), ("two", ONE), ("two", (ONE, ONE)), ("two", [ONE]), ("two", (NIL,)), ("one", (ONE,)),
                      ("two", "a"), ("two", ("one",)), ("two", (None,)), ("two", (("one", ()), None)), (ONE,), (ONE, ONE)):
            self.no("item", thing)

    def test_one_thing_put_otherwise_at_any_place(self):
        tried = {True: 0, False: 0}
        for kind, thing in (("item", TWO), ("list", LIST), ("pair", PAIR)):
            for path in paths(thing):
                for other in others(at(thing, path)):
                    changed = put(thing, path, other)
                    due = is_one(KINDS, kind, changed)
                    self.assertIs(is_value(KINDS, kind, changed), due, changed)
                    tried[due] += 1
        self.assertGreater(tried[True], 20)
        self.assertGreater(tried[False], 1000)

    def test_a_list_of_parts_that_is_right_but_for_that(self):
        self.no("list", ("more", [ONE, NIL]))
        self.no("list", ["more", (ONE, NIL)])
        self.no("list", ("more", (["one", ()], NIL)))
        self.no("list", ("more", (ONE, ["nil", ()])))

    def test_sixty_within_one_another(self):
        thing = ONE
        for number in range(59):
            thing = ("two", (thing,))
        self.yes("item", thing)
        self.no("list", thing)
        for wrong in (NIL, (), None, True, 7, "one", ["one", ()], ("one", []), ("one", (), ())):
            thing = wrong
            for number in range(59):
                thing = ("two", (thing,))
            self.no("item", thing)

    def test_a_hundred_and_twenty_deep(self):
        for wrap in (lambda thing: (thing,), lambda thing: [thing], lambda thing: ("two", thing), lambda thing: ("two", [thing])):
            thing = ()
            for number in range(119):
                thing = wrap(thing)
            self.no("item", thing)

    def test_far_deeper(self):
        thing = ONE
        for number in range(20000):
            thing = ("two", (thing,))
        self.yes("item", thing)
        self.assertEqual(size(thing), 20001)
        self.assertEqual(counts(thing), {"two": 20000, "one": 1})
        self.assertEqual(key(KINDS, thing), [1] * 20000 + [0])

    def test_two_hundred_makers_and_more(self):
        thing = NIL
        for number in range(150):
            thing = ("more", (ONE, thing))
        self.yes("list", thing)
        self.assertEqual(size(thing), 301)


class SizeTest(unittest.TestCase):
    def test_size(self):
        for value, due in ((ONE, 1), (TWO, 2), (NIL, 1), (("more", (ONE, NIL)), 3), (LIST, 6), (PAIR, 13)):
            self.assertEqual(size(value), due)
            self.assertIs(type(size(value)), int)

    def test_counts(self):
        self.assertEqual(counts(ONE), {"one": 1})
        self.assertEqual(counts(LIST), {"more": 2, "two": 1, "one": 2, "nil": 1})
        self.assertEqual(counts(PAIR), {"both": 2, "more": 2, "two": 2, "one": 4, "nil": 2, "lone": 1})

    def test_depth(self):
        for value, due in ((ONE, 1), (TWO, 2), (NIL, 1), (("more", (ONE, NIL)), 2), (LIST, 3), (PAIR, 4)):
            self.assertEqual(depth(value), due)
        self.assertEqual(depth(nested("two", ONE, 20000)), 20001)
        self.assertEqual(depth(("more", (nested("two", ONE, 7), ("more", (TWO, NIL))))), 9)
        self.assertEqual(depth(("more", (ONE, ("more", (ONE, ("more", (ONE, NIL))))))), 4)

    def test_by_chance(self):
        source = random.Random(7)
        for number in range(500):
            kind = source.choice(("item", "list"))
            value = chance_value(source, KINDS, kind, source.randint(1, 12))
            makers = makers_told(value)
            self.assertIs(is_value(KINDS, kind, value), True)
            self.assertEqual(size(value), len(makers))
            self.assertEqual(counts(value), {maker: makers.count(maker) for maker in makers})
            self.assertEqual({type(often) for often in counts(value).values()}, {int})

    def test_what_is_told_is_the_askers_own(self):
        told = counts(LIST)
        told["more"] = 99
        told["six"] = 1
        self.assertEqual(counts(LIST), {"more": 2, "two": 1, "one": 2, "nil": 1})
        first = key(KINDS, LIST)
        kept = list(first)
        first.clear()
        self.assertEqual(key(KINDS, LIST), kept)
        self.assertIsNot(key(KINDS, LIST), key(KINDS, LIST))
        self.assertEqual(LIST, ("more", (TWO, ("more", (ONE, NIL)))))


class KeyTest(unittest.TestCase):
    def test_lists_of_whole_numbers(self):
        for value in (ONE, TWO, LIST, PAIR):
            self.assertIs(type(key(KINDS, value)), list)
            self.assertEqual({type(number) for number in key(KINDS, value)}, {int})

    def test_makers_numbers_in_the_kind(self):
        self.assertLess(key(KINDS, ONE), key(KINDS, TWO))
        self.assertLess(key(KINDS, TWO), key(KINDS, ("six", ())))
        self.assertLess(key(KINDS, ("two", (("six", ()),))), key(KINDS, ("six", ())))
        self.assertLess(key(KINDS, PAIR), key(KINDS, ("lone", ())))

    def test_first_parts_ahead_of_later_ones(self):
        low = ("more", (ONE, ("more", (("six", ()), NIL))))
        high = ("more", (TWO, NIL))
        self.assertLess(key(KINDS, low), key(KINDS, high))

    def test_all_small_values_are_in_order(self):
        for kind, depth in (("item", 6), ("list", 4), ("pair", 3)):
            told = values(KINDS, kind, depth)
            keys = [key(KINDS, value) for value in told]
            self.assertGreater(len(told), 5)
            self.assertEqual(keys, sorted(keys))
            self.assertEqual(len({tuple(one) for one in keys}), len(told))

    def test_alike_where_values_are_the_same(self):
        again = ("more", (("two", (("one", ()),)), ("more", (("one", ()), ("nil", ())))))
        self.assertEqual(key(KINDS, LIST), key(KINDS, again))

    def test_the_order_of_kinds_and_makers_is_the_programs(self):
        kinds = read("kind c z | a b | m\nkind b y | x")[0]
        things = [("z", ()), ("a", (("y", ()),)), ("a", (("x", ()),)), ("m", ())]
        keys = [key(kinds, thing) for thing in things]
        self.assertEqual(keys, sorted(keys))
        self.assertLess(key(kinds, ("y", ())), key(kinds, ("x", ())))


if __name__ == "__main__":
    unittest.main()
