"""Least papers: promises 22 and 23, and the second point of 3."""

import math
import random
import unittest
from unittest import mock

from pursewright.least import all_rows, least
from pursewright.papers import checked
from pursewright.places import pieces
from pursewright.reader import read
from pursewright.rows import rows, unknowns
from pursewright.sums import settled
from tests.helper import (
    LIST_PROGRAM, dot, goal_in_full, none_is_shown, price_is_shown, ring_is_shown, rows_in_full, small_programs,
)

KINDS = "kind item one | two item\nkind list nil | more item list\nkind lone only\n"
TREES = "kind tree leaf | node tree tree tree\n"
TREE = read(TREES + "def f x tree to tree : case x leaf : give x | node a b c :"
            " let p call f a ; let q call f b ; let r call f c ; pay 1 ; give r end")
BOTH = "kind two leaf | fork two two\n"


def lone(body):
    return read("kind lone only\ndef f x lone to lone : " + body)


def result_places(program, f):
    return [place for place, one in enumerate(unknowns(program)) if one[:2] in (("result", f), ("last", f))]


def widest_least(many):
    """Lists of so many kinds, each copied by a function of its own, each function calling the one ahead of it."""
    kinds = "".join(f"kind k{chr(97 + k)} n{chr(97 + k)} | m{chr(97 + k)} k{chr(97 + k)}\n" for k in range(many))
    told = []
    for k in range(many):
        own = chr(97 + k)
        ahead = f"let q call f{chr(96 + k)} p ; " if k else ""
        start = f"let p make n{chr(96 + k)} ; " if k else ""
        told.append(f"def f{own} x k{own} to k{own} : case x n{own} : pay {k + 1} ; give x"
                    f" | m{own} a : {start}{ahead}pay {k + 2} ; let b call f{own} a ; give b end")
    return read(kinds + "\n".join(told))


class AllRowsTest(unittest.TestCase):
    def test_wishes_none(self):
        told = all_rows(LIST_PROGRAM, 0, None)
        self.assertEqual(told[: -5], rows(LIST_PROGRAM))
        self.assertEqual(told[-5:], [(("wish", 0, j), {5 + j: 1}, 0) for j in range(5)])
        self.assertEqual(unknowns(LIST_PROGRAM)[5:10],
                         [("result", 0, maker) for maker in ("one", "two", "nil", "more")] + [("last", 0)])

    def test_wishes_of_nought_and_above(self):
        self.assertEqual(all_rows(LIST_PROGRAM, 0, (0,) * 5), all_rows(LIST_PROGRAM, 0, None))
        told = all_rows(LIST_PROGRAM, 0, (3, 0, 1000, 7, 2))
        self.assertEqual(told, rows(LIST_PROGRAM) + [(("wish", 0, j), {5 + j: 1}, number)
                                                     for j, number in enumerate((3, 0, 1000, 7, 2))])

    def test_other_functions(self):
        for f, many in ((1, 3), (2, 5)):
            told = all_rows(LIST_PROGRAM, f, tuple(range(many)))
            self.assertEqual(told[: -many], rows(LIST_PROGRAM))
            places = result_places(LIST_PROGRAM, f)
            self.assertEqual(len(places), many)
            self.assertEqual(told[-many:], [(("wish", f, j), {place: 1}, j) for j, place in enumerate(places)])

    def test_makers_of_several_kinds_within(self):
        program = read("kind a one b | two\nkind b nil | more a b\nkind c lone | far a\n"
                       "def f x b y c to c : give y\ndef g x a to a : give x")
        self.assertEqual([row[0] for row in all_rows(program, 0, None)[len(rows(program)) :]],
                         [("wish", 0, j) for j in range(7)])
        self.assertEqual([row[2] for row in all_rows(program, 1, (5, 6, 7, 8, 9))[-5:]], [5, 6, 7, 8, 9])
        names = unknowns(program)
        told = [names[place] for row in all_rows(program, 0, None)[-7:] for place in row[1]]
        makers = ("one", "two", "nil", "more", "lone", "far")
        self.assertEqual(told, [("result", 0, maker) for maker in makers] + [("last", 0)])

    def test_by_chance_told_anew(self):
        source = random.Random(32)
        for program, f, args in small_programs(source, 60):
            places = result_places(program, f)
            wishes = tuple(source.randint(0, 1000) for _ in places)
            due = [(("wish", f, j), {place: 1}, wishes[j]) for j, place in enumerate(places)]
            self.assertEqual(all_rows(program, f, wishes), rows(program) + due)

    def test_a_list_of_the_askers_own(self):
        told = all_rows(LIST_PROGRAM, 0, (1, 2, 3, 4, 5))
        self.assertIs(type(told), list)
        self.assertEqual({tuple(type(part) for part in row) for row in told}, {(tuple, dict, int)})
        kept = [(why, dict(weights), number) for why, weights, number in told]
        for why, weights, number in told:
            weights.clear()
        told.clear()
        self.assertEqual(all_rows(LIST_PROGRAM, 0, (1, 2, 3, 4, 5)), kept)


class LeastTest(unittest.TestCase):
    def ask(self, program, f, goal, wishes=None):
        """What is told, looked at by sums alone."""
        told = least(program, f, goal, wishes)
        self.assertEqual(told, least(program, f, goal, wishes))
        self.assertIs(type(told), tuple)
        asked = all_rows(program, f, wishes)
        if told[0] == "price":
            self.look_at_price(program, asked, goal_in_full(program, f, goal), told)
            self.look_at_wishes(program, f, wishes, told[2])
        else:
            self.assertEqual((told[0], len(told)), ("none", 3))
            self.look_at_none(program, asked, told[1], told[2])
        return told

    def look_at_price(self, program, asked, goal, told):
        word, (top, bottom), (parts, numbers), (share_bottom, shares) = told
        self.assertEqual([type(pair) for pair in told[1:]], [tuple] * 3)
        self.assertEqual((type(numbers), type(shares), len(shares)), (tuple, tuple, len(asked)))
        self.assertEqual(math.gcd(top, bottom), 1)
        self.assertGreaterEqual(bottom, 1)
        self.assertIs(checked(program, (parts, numbers)), True)
        self.assertEqual(dot(goal, numbers) * bottom, top * parts)
        self.assertTrue(price_is_shown(rows_in_full(program, asked), goal, (top, bottom), (share_bottom, shares)))

    def look_at_wishes(self, program, f, wishes, paper):
        for place, wish in zip(result_places(program, f), wishes or ()):
            self.assertGreaterEqual(paper[1][place], wish * paper[0])

    def look_at_none(self, program, asked, shares, ring):
        self.assertEqual((type(shares), len(shares), type(ring)), (tuple, len(asked), list))
        self.assertTrue(none_is_shown(rows_in_full(program, asked), len(unknowns(program)), shares))
        above = [share for row, share in zip(asked, shares) if row[0][0] == "wish" and row[2] > 0 and share > 0]
        if above:
            self.assertEqual(ring, [])
        else:
            self.assertEqual({type(pair) for pair in ring}, {tuple})
            self.assertTrue(ring_is_shown(program, shares, ring))

    def price(self, program, f, goal, wishes=None):
        told = self.ask(program, f, goal, wishes)
        self.assertEqual(told[0], "price")
        return told[1]

    def ring(self, program, f, goal, wishes=None):
        told = self.ask(program, f, goal, wishes)
        self.assertEqual(told[0], "none")
        return told[2]

    def test_pays_alone(self):
        self.assertEqual(self.price(lone("pay 7 ; give x"), 0, (1, 1)), (7, 1))
        self.assertEqual(self.price(lone("pay 7 ; give x"), 0, (1, 3)), (21, 1))
        self.assertEqual(self.price(lone("pay 7 ; give x"), 0, (1000, 1000)), (7000, 1))
        self.assertEqual(self.price(lone("pay 7 ; get 5 ; pay 4 ; give x"), 0, (1, 1)), (7, 1))
        self.assertEqual(self.price(lone("pay 7 ; get 2 ; pay 4 ; give x"), 0, (1, 1)), (9, 1))
        self.assertEqual(self.price(lone("get 7 ; give x"), 0, (1, 1)), (0, 1))
        self.assertEqual(self.price(lone("pay 9999999 ; give x"), 0, (1, 1000)), (9999999000, 1))

    def test_what_lies_in_a_thing_pays_where_it_is_cheaper(self):
        program = lone("case x only : pay 6 ; give x end")
        self.assertEqual(self.price(program, 0, (1, 2)), (6, 1))
        self.assertEqual(self.price(program, 0, (3, 2)), (12, 1))
        self.assertEqual(self.price(program, 0, (0, 2)), (0, 1))

    def test_goals_with_noughts(self):
        for goal in ((0, 0), (0, 5), (5, 0)):
            self.assertEqual(self.price(lone("case x only : pay 6 ; give x end"), 0, goal), (0, 1))
        self.assertEqual(self.price(lone("pay 6 ; give x"), 0, (5, 0)), (0, 1))
        self.assertEqual(self.price(LIST_PROGRAM, 0, (0, 0, 0, 0, 0)), (0, 1))
        self.assertEqual(self.price(LIST_PROGRAM, 0, (1, 1, 1, 0, 1)), (0, 1))

    def test_down_a_list(self):
        self.assertEqual(self.price(LIST_PROGRAM, 0, (0, 0, 0, 1, 0)), (2, 1))
        self.assertEqual(self.price(LIST_PROGRAM, 0, (1, 1, 1, 1, 1)), (2, 1))
        self.assertEqual(self.price(LIST_PROGRAM, 0, (9, 9, 9, 500, 9)), (1000, 1))

    def test_a_function_without_params(self):
        self.assertEqual(self.price(LIST_PROGRAM, 2, (1,)), (0, 1))
        self.assertEqual(self.price(LIST_PROGRAM, 2, (1,), (0, 0, 5, 0, 0)), (5, 1))
        self.assertEqual(self.price(LIST_PROGRAM, 2, (1,), (0, 0, 5, 0, 2)), (7, 1))

    def test_down_a_tree_fractions(self):
        # Of three trees there are half as many inner ones as leaves: each leaf may bring half a coin.
        self.assertEqual(self.price(TREE, 0, (1, 1000, 0)), (1, 2))
        self.assertEqual(self.price(TREE, 0, (3, 2, 1)), (3, 2))
        self.assertEqual(self.price(TREE, 0, (3, 1, 1)), (1, 1))
        self.assertEqual(self.price(TREE, 0, (6, 7, 1)), (3, 1))
        told = least(TREE, 0, (1, 1000, 0))
        self.assertEqual(told[2][1][0] * 2, told[2][0])

    def test_functions_that_call_one_another(self):
        program = read("kind num z | s num\n"
                       "def even x num to num : case x z : give x | s a : pay 3 ; let b call odd a ; give b end\n"
                       "def odd x num to num : case x z : give x | s a : pay 5 ; let b call even a ; give b end")
        # A pay may be met by the first coins of the function that is called, so no weight of 5 is due.
        self.assertEqual(self.price(program, 0, (0, 1, 0)), (4, 1))
        self.assertEqual(self.price(program, 0, (0, 1, 100)), (4, 1))
        self.assertEqual(self.price(program, 1, (0, 1, 0)), (4, 1))
        self.assertEqual(self.price(program, 1, (0, 1, 100)), (5, 1))

    def test_calls_of_others(self):
        program = read("kind lone only\ndef f x lone to lone : let y call g x ; let z call g y ; give z\n"
                       "def g x lone to lone : pay 4 ; get 3 ; give x")
        self.assertEqual(self.price(program, 0, (1, 1)), (5, 1))
        self.assertEqual(self.price(program, 1, (1, 1)), (4, 1))

    def test_wishes_that_raise_the_price(self):
        program = lone("pay 7 ; give x")
        self.assertEqual(self.price(program, 0, (1, 1), (0, 0)), (7, 1))
        self.assertEqual(self.price(program, 0, (1, 1), (0, 5)), (12, 1))
        self.assertEqual(self.price(program, 0, (1, 1), (5, 0)), (12, 1))
        self.assertEqual(self.price(program, 0, (2, 3), (1000, 1000)), (2000 + 3021, 1))
        self.assertEqual(self.price(LIST_PROGRAM, 0, (1, 1, 1, 1, 1), (0, 0, 0, 3, 0)), (5, 1))
        self.assertEqual(self.price(LIST_PROGRAM, 0, (1, 1, 1, 1, 1), (4, 0, 0, 3, 0)), (9, 1))

    def test_wishes_that_gets_meet(self):
        program = lone("get 7 ; give x")
        self.assertEqual(self.price(program, 0, (1, 1), (0, 7)), (0, 1))
        self.assertEqual(self.price(program, 0, (1, 1), (0, 9)), (2, 1))

    def test_wishes_none_and_all_nought_alike(self):
        for program, f, goal, many in ((LIST_PROGRAM, 0, (1, 2, 3, 4, 5), 5), (TREE, 0, (1, 1, 1), 3),
                                       (lone("pay 4 ; let y call f x ; give y"), 0, (1, 1), 2)):
            self.assertEqual(least(program, f, goal), least(program, f, goal, None))
            self.assertEqual(least(program, f, goal), least(program, f, goal, (0,) * many))

    def test_wishes_that_no_paper_keeps(self):
        program = read(BOTH + "def f x two to two : let y call f x ; let z make fork y y ; give z")
        self.assertEqual(self.price(program, 0, (1, 1, 1)), (0, 1))
        self.assertEqual(self.ring(program, 0, (1, 1, 1), (1, 0, 0)), [])
        self.assertEqual(self.ring(program, 0, (0, 0, 0), (1000, 0, 1)), [])
        self.assertEqual(self.ring(program, 0, (1, 1, 1), (0, 1, 0)), [])
        # Behind its own call nothing is left but what that gives back.
        self.assertEqual(self.price(program, 0, (1, 1, 1), (0, 0, 5)), (0, 1))

    def test_a_ring_of_one_call(self):
        program = lone("pay 4 ; let y call f x ; give y")
        self.assertEqual(self.ring(program, 0, (1, 1)), [(0, 1)])
        self.assertEqual(self.ring(program, 0, (0, 0)), [(0, 1)])
        self.assertEqual(self.ring(program, 0, (1, 1), (0, 0)), [(0, 1)])

    def test_a_ring_of_several_calls(self):
        text = "kind lone only\n" + "\n".join(
            f"def {name} x lone to lone : get 1 ; let y call {onward} x ; {body}give y"
            for name, onward, body in (("f", "g", "pay 1 ; "), ("g", "h", ""), ("h", "f", "pay 9 ; ")))
        for f in range(3):
            ring = self.ring(read(text), f, (1, 1))
            self.assertEqual(sorted(ring), [(0, 1), (1, 1), (2, 1)])

    def test_calls_ahead_of_a_ring(self):
        program = read("kind lone only\ndef f x lone to lone : let y call g x ; give y\n"
                       "def g x lone to lone : pay 1 ; let y call h x ; let z call k y ; give z\n"
                       "def h x lone to lone : pay 1 ; let y call g x ; give y\n"
                       "def k x lone to lone : pay 5 ; give x")
        for f in range(4):
            self.assertEqual(sorted(self.ring(program, f, (1, 1))), [(1, 1), (2, 1)])

    def test_a_ring_in_a_function_that_is_not_asked_of(self):
        program = read("kind lone only\ndef f x lone to lone : give x\ndef g x lone to lone : pay 1 ; let y call g x ; give y")
        self.assertEqual(self.ring(program, 0, (1, 1)), [(1, 1)])

    def test_a_ring_through_a_case(self):
        program = read("kind num z | s num\ndef f x num to num : case x z : give x"
                       " | s a : pay 2 ; let b call f a ; let c call f x ; give c end")
        self.assertEqual(self.ring(program, 0, (1, 1, 1)), [(0, 4)])

    def test_two_calls_of_one_list(self):
        program = read(KINDS + "def f x list to lone : case x nil : let e make only ; give e"
                       " | more a b : pay 1 ; let c call f b ; let d call f b ; give d end")
        told = self.ask(program, 0, (1, 1, 1, 1, 1))
        self.assertEqual(told[0], "none")
        self.assertTrue(set(told[2]) <= {(0, 4), (0, 5)})

    def test_shares_of_wishes_of_nought_hinder_no_ring(self):
        program = read("kind lone only\ndef f x lone to lone : pay 4 ; let y call g x ; let q call g x ; let z call f y ;"
                       " give z\ndef g x lone to lone : give x")
        self.assertEqual(self.ring(program, 1, (1, 1), (0, 0)), [(0, 3)])
        # Uses of x twice over leave room for a share of what is wished of g's result; leasts of all these are 0.
        more = {("use", 0, 4, "x", "only"): 1, ("use", 0, 4, "y", "only"): 1, ("use", 1, 0, "x", "only"): 2, ("wish", 1, 0): 1}
        whys = [row[0] for row in all_rows(program, 1, None)]

        def with_more(rows, goal):
            return ("none", tuple(share + more.get(why, 0) for why, share in zip(whys, settled(rows, goal)[1])))

        with mock.patch("pursewright.least.settled", with_more):
            self.assertEqual(self.ring(program, 1, (1, 1), (0, 0)), [(0, 3)])

    def test_a_wish_and_a_ring(self):
        program = lone("pay 4 ; let y call f x ; give y")
        told = self.ask(program, 0, (1, 1), (3, 3))
        self.assertEqual(told[0], "none")

    def test_by_chance(self):
        source = random.Random(33)
        seen = {}
        for program, f, args in small_programs(source, 400):
            names = unknowns(program)
            many = len([one for one in names if one[:2] in (("param", f), ("first", f))])
            goal = tuple(source.choice((0, 1, 1, 2, 7, 1000)) for _ in range(many))
            wishes = tuple(source.choice((0, 0, 0, 1, 1000)) for _ in result_places(program, f))
            told = self.ask(program, f, goal, source.choice((None, wishes)))
            kind = (told[0], told[1][0] > 0 if told[0] == "price" else len(told[2]) > 0)
            seen[kind] = seen.get(kind, 0) + 1
        self.assertGreater(min(seen[(word, more)] for word in ("price", "none") for more in (True, False)), 10)

    def test_many_unknowns_and_rows(self):
        source = random.Random(34)
        for program, f, args in small_programs(source, 25, 50):
            many = len([one for one in unknowns(program) if one[:2] in (("param", f), ("first", f))])
            self.ask(program, f, tuple(source.randint(0, 1000) for _ in range(many)))

    def test_lists_of_several_kinds(self):
        program = widest_least(6)
        self.assertLessEqual(len(unknowns(program)), 60)
        self.assertGreaterEqual(len(unknowns(program)), 50)
        told = [self.price(program, f, (0, 1, 1)) for f in range(6)]
        # Each thing of a list costs its own pay and a call of the function ahead with an empty list.
        self.assertEqual([bottom for top, bottom in told], [1] * 6)
        self.assertEqual([self.price(program, f, (0, 1, 0))[0] for f in range(6)], [2, 4, 6, 8, 10, 12])
        self.assertGreater(self.price(program, 5, (1, 1, 1), (0, 0, 1000)), self.price(program, 5, (1, 1, 1)))
        # What a case looked at is given on, and all that it held has gone to the next call.
        self.assertEqual(self.ring(program, 5, (1, 1, 1), (0, 2, 3)), [])

    def test_what_is_told_is_the_askers_own(self):
        program = lone("pay 4 ; let y call f x ; give y")
        told = least(program, 0, (1, 1))
        kept = list(told[2])
        told[2].clear()
        self.assertEqual(least(program, 0, (1, 1))[2], kept)

    def test_ring_pieces_are_calls(self):
        source = random.Random(35)
        seen = 0
        for program, f, args in small_programs(source, 300):
            many = len([one for one in unknowns(program) if one[:2] in (("param", f), ("first", f))])
            told = least(program, f, (1,) * many)
            if told[0] == "none":
                seen += 1
                self.assertTrue(told[2])
                for g, n in told[2]:
                    self.assertEqual(pieces(program[1][g][3])[n][0], "call")
        self.assertGreater(seen, 30)


if __name__ == "__main__":
    unittest.main()
