"""Turned programs: promise 27, and the first sentence of 28."""

import random
import unittest

from pursewright.errors import NoChain, NoPaper, NoProgram, NoRow, NoText, NoTurn, NoValue, PurseError
from pursewright.needs import need, ran
from pursewright.places import kinds_at, pieces
from pursewright.reader import read
from pursewright.sound import look
from pursewright.turned import moved, named, written_out
from pursewright.words import is_name
from pursewright.writer import shown
from tests.helper import LIST_PROGRAM, count_pieces, deep_body, run_told, sound_programs

KINDS = "kind item one | two item\nkind list nil | more item list\nkind pair both item item\n"


def function(text, others=""):
    """A program whose first function has this row behind its name."""
    return read(KINDS + "def f " + text + others)


def bound_told(function):
    """All names bound in a function, told anew."""

    def bound(body):
        if body[0] == "give":
            return set()
        if body[0] == "case":
            return set().union(*(set(names) | bound(inner) for maker, names, inner in body[2]))
        own = {body[1]} if body[0] in ("make", "call", "name") else set()
        return own | bound(body[-1])

    return {name for name, kind in function[1]} | bound(function[3])


def changed_at(body, n, change):
    """The body with piece n changed."""
    if n == 0:
        return change(body)
    if body[0] != "case":
        return body[:-1] + (changed_at(body[-1], n - 1, change),)
    arms, left = [], n - 1
    for maker, names, inner in body[2]:
        many = count_pieces(inner)
        arms.append((maker, names, changed_at(inner, left, change) if 0 <= left < many else inner))
        left -= many
    return (body[0], body[1], tuple(arms))


def called(body, new, at_give=lambda give: give):
    """The body with all names passed through new; each give, so passed, is changed."""
    word = body[0]
    if word == "give":
        return at_give(("give", new(body[1])))
    if word in ("pay", "get"):
        return (word, body[1], called(body[2], new, at_give))
    if word == "name":
        return (word, new(body[1]), new(body[2]), called(body[3], new, at_give))
    if word == "case":
        return (word, new(body[1]), tuple((maker, tuple(new(name) for name in names), called(inner, new, at_give))
                                          for maker, names, inner in body[2]))
    return (word, new(body[1]), body[2], tuple(new(name) for name in body[3]), called(body[4], new, at_give))


def written_told(program, call):
    """What stands in the place of a call; new names are tuples."""
    name, params, kind, body = [one for one in program[1] if one[0] == call[2]][0]
    told = called(body, lambda name: ("new", name), lambda give: ("name", call[1], give[1], call[4]))
    for (param, of), arg in reversed(list(zip(params, call[3]))):
        told = ("name", ("new", param), arg, told)
    return told


def moved_told(body):
    head, behind = body[:-1], body[-1]
    if behind[0] == "case":
        return behind[:2] + (tuple((maker, names, head + (inner,)) for maker, names, inner in behind[2]),)
    return behind[:-1] + (head + (behind[-1],),)


def named_told(body, x):
    return ("name", ("new", x), x, called(body, lambda name: ("new", x) if name == x else name))


class Matched:
    """Looks whether a body is as due, new names being any that are free."""

    def __init__(self, taken):
        self.taken = taken

    def bound(self, due, name, known):
        """What is known of new names once this one is bound, None where it may not be."""
        if not isinstance(due, tuple):
            return known if due == name else None
        return {**known, due: name} if is_name(name) and name not in self.taken else None

    def used(self, due, name, known):
        return (known.get(due) if isinstance(due, tuple) else due) == name

    def all_used(self, due, names, known):
        return len(due) == len(names) and all(self.used(one, name, known) for one, name in zip(due, names))

    def body(self, due, body, known):
        if due[0] != body[0] or len(due) != len(body):
            return False
        if due[0] == "give":
            return self.used(due[1], body[1], known)
        if due[0] in ("pay", "get"):
            return due[1] == body[1] and self.body(due[2], body[2], known)
        if due[0] == "case":
            return (self.used(due[1], body[1], known) and len(due[2]) == len(body[2])
                    and all(self.arm(one, arm, known) for one, arm in zip(due[2], body[2])))
        if due[0] == "name":
            fine = self.used(due[2], body[2], known)
        else:
            fine = due[2] == body[2] and self.all_used(due[3], body[3], known)
        known = self.bound(due[1], body[1], known)
        return fine and known is not None and self.body(due[-1], body[-1], known)

    def arm(self, due, arm, known):
        if due[0] != arm[0] or len(due[1]) != len(arm[1]):
            return False
        for one, name in zip(due[1], arm[1]):
            known = self.bound(one, name, known)
            if known is None:
                return False
        return self.body(due[2], arm[2], known)


class TurnedCase(unittest.TestCase):
    def look_at(self, program, turned, f, n, change):
        """The turned program is sound, and function f has the changed piece n, and all else is as it was."""
        self.assertIs(look(turned), True)
        self.assertEqual(turned[0], program[0])
        self.assertEqual(turned[1][:f] + turned[1][f + 1 :], program[1][:f] + program[1][f + 1 :])
        self.assertEqual(turned[1][f][:3], program[1][f][:3])
        due = changed_at(program[1][f][3], n, change)
        self.assertTrue(Matched(bound_told(program[1][f])).body(due, turned[1][f][3], {}), (due, turned[1][f][3]))
        self.assertEqual(read(shown(turned)), turned)
        return turned

    def write(self, program, f, n):
        turned = written_out(program, f, n)
        return self.look_at(program, turned, f, n, lambda body: written_told(program, body))

    def move(self, program, f, n):
        return self.look_at(program, moved(program, f, n), f, n, moved_told)

    def name(self, program, f, n, x):
        return self.look_at(program, named(program, f, n, x), f, n, lambda body: named_told(body, x))

    def refused(self, turn, *words):
        with self.assertRaises(NoTurn) as caught:
            turn(*words)
        self.assertIsInstance(caught.exception, PurseError)
        for other in (NoChain, NoPaper, NoProgram, NoRow, NoText, NoValue):
            self.assertNotIsInstance(caught.exception, other)

    def words_of(self, program, f=0):
        return [piece[0] for piece in pieces(program[1][f][3])]


G = "\ndef g y item z item to item : let x make two y ; get 2 ; give x"
CASES = ("\ndef g y item to item : case y one : pay 3 ; give y | two a : case a one : give a"
         " | two b : let c make two b ; let d call g c ; give d end end")
# Each sort of piece once on one way.
ALL = "x item w item to item : pay 2 ; get 1 ; let a name x ; let b make two x ; let c call g a w ;" \
      " case w one : give a | two d : give c end"


class WrittenOutTest(TurnedCase):
    def test_a_call(self):
        program = function("x item w item to item : pay 1 ; let c call g x w ; get 4 ; give c", G)
        turned = self.write(program, 0, 1)
        self.assertEqual(self.words_of(turned), ["pay", "name", "name", "make", "get", "name", "get", "give"])
        body = pieces(turned[1][0][3])
        self.assertEqual([body[1][2], body[2][2]], ["x", "w"])
        self.assertEqual(body[3][3], (body[1][1],))
        self.assertEqual((body[5][1], body[5][2]), ("c", body[3][1]))
        self.assertEqual(body[7], ("give", "c"))

    def test_the_same_arg_twice(self):
        program = function("x item to item : let c call g x x ; give c", G)
        body = pieces(self.write(program, 0, 0)[1][0][3])
        self.assertEqual([body[0][2], body[1][2]], ["x", "x"])
        self.assertNotEqual(body[0][1], body[1][1])

    def test_without_params(self):
        program = function("x item to list : let c call g ; give c", "\ndef g to list : let x make nil ; give x")
        self.assertEqual(self.words_of(self.write(program, 0, 0)), ["make", "name", "give"])

    def test_a_give_alone(self):
        program = function("x item to item : let c call g x ; give c", "\ndef g y item to item : give y")
        self.assertEqual(self.words_of(self.write(program, 0, 0)), ["name", "name", "give"])

    def test_cases_have_the_calls_body_behind_each_give(self):
        program = function("x item to item : let c call g x ; pay 5 ; let d make two c ; give d", CASES)
        turned = self.write(program, 0, 0)
        behind = ["name", "pay", "make", "give"]
        self.assertEqual(self.words_of(turned),
                         ["name", "case", "pay"] + behind + ["case"] + behind + ["make", "call"] + behind)

    def test_a_calls_body_with_cases(self):
        program = function("x item to item : let c call g x ; case c one : give x | two a : let b call g a ; give b end", CASES)
        turned = self.write(program, 0, 0)
        self.assertEqual(self.words_of(turned).count("call"), 4)
        self.write(turned, 0, self.words_of(turned).index("call"))

    def test_a_call_of_itself(self):
        turned = self.write(LIST_PROGRAM, 0, 4)
        self.assertEqual(self.words_of(turned), ["case", "make", "give", "pay", "name", "case", "make", "name", "make",
                                                 "give", "pay", "call", "make", "name", "make", "give"])
        again = self.write(turned, 0, 11)
        self.assertEqual(self.words_of(again).count("call"), 1)
        self.write(again, 0, self.words_of(again).index("call"))

    def test_a_call_in_an_arm(self):
        program = function("x item to item : case x one : give x | two a : let b call g a a ; give b end", G)
        turned = self.write(program, 0, 2)
        self.assertEqual(turned[1][0][3][2][0], ("one", (), ("give", "x")))

    def test_functions_called_like_others_and_later_ones(self):
        program = read("kind f f | g f\ndef f f f to f : let g call g f ; give g\ndef g f f to f : let g make g f ; give g")
        self.write(program, 0, 0)

    def test_pieces_that_are_no_calls(self):
        program = function(ALL, G)
        for n, word in enumerate(self.words_of(program)):
            if word != "call":
                self.refused(written_out, program, 0, n)
        self.write(program, 0, 4)

    def test_by_chance_told_anew(self):
        source = random.Random(41)
        seen = 0
        for program, f, args in sound_programs(source, 250, 4):
            for n, word in enumerate(self.words_of(program, f)):
                if word == "call":
                    self.write(program, f, n)
                    seen += 1
                else:
                    self.refused(written_out, program, f, n)
        self.assertGreater(seen, 60)

    def test_far_deeper(self):
        program = function("x item to item : let c call g x ; give c",
                           "\ndef g y item to item : give y")
        deep = (program[0], program[1][:1] + (program[1][1][:3] + (deep_body(3000, ("give", "y")),),))
        turned = written_out(deep, 0, 0)
        self.assertEqual(len(pieces(turned[1][0][3])), 3003)
        self.assertIs(look(turned), True)
        self.assertEqual(need(turned, 0, (("one", ()),), 4000)[1], ("gave", ("one", ())))
        self.assertEqual(len(pieces(named(turned, 0, 2500, "x")[1][0][3])), 3004)
        self.refused(moved, turned, 0, 3001)
        self.assertEqual(pieces(moved(turned, 0, 0)[1][0][3])[1][:3], turned[1][0][3][:3])


class MovedTest(TurnedCase):
    def test_behind_each_sort_of_piece(self):
        for piece in ("make", "name"):
            own = {"make": "let m make two x", "name": "let m name x"}[piece]
            for behind in ("pay 3", "get 3", "let n make two w", "let n name x", "let n call g x w"):
                program = function(f"x item w item to item : pay 1 ; {own} ; {behind} ; give m", G)
                turned = self.move(program, 0, 1)
                self.assertEqual(self.words_of(turned)[2], piece)
                self.assertEqual(pieces(turned[1][0][3])[2][1], "m")

    def test_behind_a_case(self):
        program = function("x item w item to item : let m make two x ; case w one : give m"
                           " | two a : case a one : give a | two b : give m end end")
        turned = self.move(program, 0, 0)
        self.assertEqual(self.words_of(turned), ["case", "make", "give", "make", "case", "give", "give"])
        again = self.move(turned, 0, 3)
        self.assertEqual(self.words_of(again), ["case", "make", "give", "case", "make", "give", "make", "give"])

    def test_a_case_of_what_it_is_made_of(self):
        program = function("x item w item to item : let m name x ; case x one : give m | two a : give m end")
        self.move(program, 0, 0)

    def test_uses_of_its_own(self):
        for behind in ("let n make two m ; give n", "let n name m ; give n", "let n call g m w ; give n",
                       "let n call g w m ; give n", "let n make both m w ; give x", "let n make both w m ; give x",
                       "case m one : give x | two a : give x end"):
            for own in ("let m make two x", "let m name x"):
                self.refused(moved, function(f"x item w item to item : {own} ; {behind}", G), 0, 0)

    def test_ahead_of_a_give(self):
        self.refused(moved, function("x item to item : let m make two x ; give m"), 0, 0)
        self.refused(moved, function("x item to item : let m make two x ; give x"), 0, 0)
        self.refused(moved, function("x item to item : let m name x ; give x"), 0, 0)

    def test_pieces_that_are_not_moved(self):
        program = function(ALL, G)
        for n, word in enumerate(self.words_of(program)):
            if word not in ("make", "name"):
                self.refused(moved, program, 0, n)
        self.move(program, 0, 2)
        self.move(program, 0, 3)

    def test_in_an_arm(self):
        program = function("x item w item to item : case x one : give x | two a : let m make two a ; get 1 ; give m end")
        turned = self.move(program, 0, 2)
        self.assertEqual(self.words_of(turned), ["case", "give", "get", "make", "give"])

    def test_down_to_the_give(self):
        program = function("x item w item to item : let m make two x ; pay 1 ; pay 2 ; let n call g x w ; give n", G)
        for n in range(3):
            program = self.move(program, 0, n)
        self.refused(moved, program, 0, 3)

    def test_by_chance_told_anew(self):
        source = random.Random(42)
        seen = {True: 0, False: 0}
        for program, f, args in sound_programs(source, 250, 4):
            for n, piece in enumerate(pieces(program[1][f][3])):
                behind = piece[-1]
                fine = piece[0] in ("make", "name") and behind[0] != "give"
                used = {"make": behind[3:4], "call": behind[3:4], "name": behind[2:3], "case": behind[1:2]}
                words = used.get(behind[0], ())
                fine = fine and piece[1] not in (words[0] if words and isinstance(words[0], tuple) else words)
                seen[fine] += 1
                if fine:
                    self.move(program, f, n)
                else:
                    self.refused(moved, program, f, n)
        self.assertGreater(min(seen.values()), 60)


class NamedTest(TurnedCase):
    def test_a_param_at_each_piece(self):
        program = function(ALL, G)
        for n in range(len(self.words_of(program))):
            for x in ("x", "w"):
                turned = self.name(program, 0, n, x)
                self.assertEqual(self.words_of(turned)[n], "name")
                self.assertEqual(pieces(turned[1][0][3])[n][2], x)

    def test_names_of_each_sort_of_piece(self):
        program = function(ALL, G)
        for n in range(len(self.words_of(program))):
            bound = [name for name, kind in kinds_at(program, 0, n)]
            for x in ("a", "b", "c", "d"):
                if x in bound:
                    self.name(program, 0, n, x)
                else:
                    self.refused(named, program, 0, n, x)

    def test_uses_beneath(self):
        program = function("x item w item to item : let p make both x x ; let c call g x x ; let a name x ;"
                           " case x one : give x | two y : let z make two x ; give z end", G)
        turned = self.name(program, 0, 1, "x")
        new = turned[1][0][3][4][1]
        told = pieces(turned[1][0][3])
        self.assertEqual(told[0], turned[1][0][3])
        self.assertEqual(told[0][3], ("x", "x"))
        self.assertEqual(told[1][1:3], (new, "x"))
        self.assertEqual([told[2][3], told[3][2], told[4][1], told[5]], [(new, new), new, new, ("give", new)])
        self.assertEqual(told[6][3], (new,))

    def test_other_arms_stay(self):
        program = function("x item w item to item : case x one : give x | two a : pay 1 ; give x end")
        turned = self.name(program, 0, 2, "x")
        self.assertEqual(turned[1][0][3][2][0], ("one", (), ("give", "x")))
        self.assertEqual(self.words_of(turned), ["case", "give", "name", "pay", "give"])

    def test_not_used_beneath(self):
        program = function("x item w item to item : pay 1 ; give w")
        turned = self.name(program, 0, 1, "x")
        self.assertEqual(self.words_of(turned), ["pay", "name", "give"])
        self.assertEqual(pieces(turned[1][0][3])[2], ("give", "w"))

    def test_arms_heads(self):
        program = function("x list to item : case x nil : let e make one ; give e | more a b : case a one : give a"
                           " | two e : give e end end")
        self.name(program, 0, 3, "a")
        self.name(program, 0, 3, "b")
        self.name(program, 0, 5, "e")
        self.name(program, 0, 2, "e")
        for n in (0, 1, 3, 4):
            self.refused(named, program, 0, n, "e")
        for n in (0, 1, 2):
            self.refused(named, program, 0, n, "a")

    def test_bound_by_the_piece_itself_beneath_or_nowhere(self):
        program = function("x item to item : let a name x ; let b make two a ; give b")
        self.refused(named, program, 0, 0, "a")
        self.refused(named, program, 0, 0, "b")
        self.refused(named, program, 0, 1, "b")
        for n in range(3):
            for x in ("z", "f", "item", "one", "two", "xx"):
                self.refused(named, program, 0, n, x)

    def test_names_of_other_functions(self):
        program = function("x item to item : give x", G)
        self.refused(named, program, 0, 0, "y")
        self.refused(named, program, 1, 0, "x")
        self.name(program, 1, 0, "y")

    def test_many_names(self):
        letters = "abcdefghijklmnopqrstuvwxyz"
        names = [name for name in list(letters) + [a + b for a in letters for b in letters] if is_name(name)]
        self.assertEqual(len(names), 26 + 26 * 26 - 1)
        body = ("give", names[0])
        for name in reversed(names[1:]):
            body = ("name", name, names[0], body)
        program = ((("k", (("m", ()),)),), (("f", ((names[0], "k"),), "k", body),))
        for n in (0, 5, len(names) - 1):
            turned = named(program, 0, n, "a")
            new = pieces(turned[1][0][3])[n][1]
            self.assertTrue(is_name(new))
            self.assertNotIn(new, names)
            self.assertIs(look(turned), True)

    def test_by_chance_told_anew(self):
        source = random.Random(43)
        for program, f, args in sound_programs(source, 200, 4):
            for n in range(len(self.words_of(program, f))):
                bound = [name for name, kind in kinds_at(program, f, n)]
                x = source.choice("abcdefghijklmno")
                if x in bound:
                    self.name(program, f, n, x)
                else:
                    self.refused(named, program, f, n, x)
                self.name(program, f, n, source.choice(bound))


class RefusedTest(TurnedCase):
    def test_functions_and_pieces_that_are_not_there(self):
        program = function(ALL, G)
        last = len(self.words_of(program))
        for f, n in ((2, 0), (99, 4), (-1, 0), (-2, 4), (0, last), (0, 99), (0, -1), (0, -5), (-99, -99), (10**30, 0)):
            self.refused(written_out, program, f, n)
            self.refused(moved, program, f, n)
            self.refused(named, program, f, n, "x")

    def test_no_functions(self):
        for program in (((), ()), read(KINDS[:-1])):
            for f in (0, -1, 1):
                self.refused(written_out, program, f, 0)
                self.refused(moved, program, f, 0)
                self.refused(named, program, f, 0, "x")


class RunsTest(TurnedCase):
    def turns(self, source, program, f):
        """A turn made by chance, None where it is refused."""
        n = source.randrange(len(self.words_of(program, f)))
        turn = source.choice(("write", "move", "name"))
        try:
            if turn == "write":
                return turn, written_out(program, f, n)
            if turn == "move":
                return turn, moved(program, f, n)
            return turn, named(program, f, n, source.choice(kinds_at(program, f, n))[0])
        except NoTurn:
            return turn, None

    def look_at_runs(self, program, turned, f, args, coins):
        ended = run_told(program, f, args, coins, 60)[1]
        if ended[0] is not None and ended[0][0] in ("gave", "short"):
            self.assertEqual(ran(turned, f, args, coins, 2000)[:2], ended[:2])
        coins, end = need(program, f, args, 60)
        if end[0] == "gave":
            self.assertEqual(need(turned, f, args, 2000), (coins, end))
        return ended[0] and ended[0][0]

    def test_by_chance_several_turns(self):
        source = random.Random(44)
        seen = {}
        for program, f, args in sound_programs(source, 250, 6):
            for number in range(8):
                turn, turned = self.turns(source, program, source.randrange(len(program[1])))
                if turned is None or max(len(pieces(one[3])) for one in turned[1]) > 150:
                    continue
                self.assertIs(look(turned), True)
                for coins in (0, source.randint(1, 30), 10**9):
                    kind = (turn, self.look_at_runs(program, turned, f, args, coins))
                    seen[kind] = seen.get(kind, 0) + 1
                program = turned
        for turn in ("write", "move", "name"):
            for end in ("gave", "short"):
                self.assertGreater(seen[(turn, end)], 20)

    def test_copies(self):
        value = ("nil", ())
        for number in range(4):
            value = ("more", (("one", ()), value))
        turned = written_out(LIST_PROGRAM, 0, 4)
        turned = written_out(turned, 0, self.words_of(turned).index("call"))
        for coins in range(10):
            due, told = ran(LIST_PROGRAM, 0, (value,), coins, 500), ran(turned, 0, (value,), coins, 500)
            self.assertEqual(told[:2], due[:2])
        self.assertEqual(need(turned, 0, (value,), 500), (8, ("gave", value)))

    def test_asked_again(self):
        program = function(ALL, G)
        for turn, words in ((written_out, (0, 4)), (moved, (0, 3)), (named, (0, 3, "x"))):
            kept = shown(program)
            told = turn(program, *words)
            self.assertEqual(turn(program, *words), told)
            self.assertEqual(shown(program), kept)
            self.assertIs(type(told), tuple)


if __name__ == "__main__":
    unittest.main()
