"""The whole program: promise 3, all four points, and what 2 promises of every function."""

import copy
import random
import unittest
from fractions import Fraction

from pursewright import (
    chainpapers, chains, desk, gaps, inputs, kinds, least, needs, papers, places, rows, shares, sound, sums, turned,
    turnedpapers, values, valuetexts, writer,
)
from pursewright.errors import NoChain, NoTurn
from pursewright.reader import read
from pursewright.walk import Walk
from tests.helper import (
    LIST_PROGRAM, LIST_TEXT, goal_in_full, ring_is_shown, rows_in_full, small_programs, sound_programs, spare_paper,
)

COPIES = "\n".join(
    [
        "kind item one | two item",
        "kind list nil | more item list",
        "def copy x list to list : case x nil : let e make nil ; give e"
        " | more a b : pay 2 ; let c call copy b ; let d make more a c ; give d end",
        "def again x list to list : case x nil : let e make nil ; give e"
        " | more a b : pay 1 ; let c call again b ; let d make more a c ; get 1 ; give d end",
        "def up x item to item : pay 3 ; let y make two x ; get 1 ; give y",
    ]
)
NAMES = ("inlist", "inend", "inmore", "outlist", "outend", "outmore", "overall")


def goal_of(program, f, number):
    return (number,) * len([one for one in rows.unknowns(program) if one[:2] in (("param", f), ("first", f))])


class Whole(unittest.TestCase):
    def look_at_run(self, program, paper, f, args, more, most):
        """The first point, of a run that begins with what the paper asks, and so many coins more."""
        asked = papers.asks(program, paper, f, args)
        coins = -(-asked // paper[0]) + more
        walk = Walk(program, f, args, coins)
        while walk.steps() < most:
            self.assertGreaterEqual(paper[0] * walk.purse(), sum(papers.held(program, paper, walk.frames())))
            if not walk.turn():
                break
        end = walk.end()
        self.assertFalse(end and end[0] == "short")
        if end and end[0] == "gave":
            told = papers.tells(program, paper, f, end[1])
            self.assertGreaterEqual(paper[0] * walk.purse() - told, paper[0] * coins - asked)
        return end

    def look_at_gaps(self, program, paper, f, size):
        """The third point."""
        for number, pair in enumerate(gaps.gaps(program, paper, f, size, 150)):
            some = tuple(kind for name, kind in program[1][f][1])
            told = [gaps.gap(program, paper, f, args, 150) for args in inputs.inputs(program[0], some, number)]
            self.assertGreaterEqual(min(told, default=0), 0)
            self.assertEqual(pair and pair[0], min(told, default=None))


class FromTextTest(Whole):
    def test_a_copy(self):
        program = read(COPIES)
        self.assertIs(sound.look(program), True)
        word, price, paper, share = least.least(program, 0, (0, 0, 0, 1, 1))
        self.assertEqual((word, price), ("price", (2, 1)))
        self.assertIs(papers.checked(program, paper), True)
        self.assertEqual([pair and pair[0] for pair in gaps.gaps(program, paper, 0, 6, 500)], [None, 0, None] + [0] * 4)
        value = valuetexts.read_value(program[0], "list", "more(one,more(two(one),nil))")
        self.assertEqual(papers.asks(program, paper, 0, (value,)), 4 * paper[0])
        self.assertEqual(self.look_at_run(program, paper, 0, (value,), 0, 500), ("gave", value))
        self.assertEqual(desk.answer(COPIES, "least copy 0 0 0 1 1"), "price 2/1 x.more=2/1 +0/1")
        self.assertEqual(desk.answer(COPIES, "need copy more(one,more(two(one),nil))"), "needs 4")

    def test_chained_copies(self):
        program = read(COPIES)
        first = least.least(program, 0, (0, 0, 0, 1, 1), (0, 0, 0, 1, 0))
        second = least.least(program, 1, (0, 0, 0, 1, 1))
        self.assertEqual((first[1], second[1]), ((3, 1), (1, 1)))
        self.assertEqual((first[2][0], second[2][0]), (1, 1))
        numbers = [one if unknown[1] == 0 else other
                   for unknown, one, other in zip(rows.unknowns(program), first[2][1], second[2][1])]
        paper = (1, tuple(numbers))
        longer, told = chains.chained(program, 0, 1, "both"), chainpapers.chained_paper(program, 0, 1, paper)
        self.assertIs(papers.checked(longer, told), True)
        # Nothing less would do: the chain's own least price is that of the two.
        self.assertEqual(least.least(longer, 3, (0, 0, 0, 1, 1))[1], (3, 1))
        value = valuetexts.read_value(program[0], "list", "more(one,more(two(one),nil))")
        self.assertEqual(papers.asks(longer, told, 3, (value,)), 6)
        self.assertEqual(self.look_at_run(longer, told, 3, (value,), 0, 500), ("gave", value))
        with self.assertRaises(NoChain) as caught:
            chainpapers.chained_paper(program, 1, 0, paper)
        self.assertEqual(caught.exception.maker, "more")

    def test_over_each_then_turned_then_chained(self):
        program = read(COPIES)
        paper = least.least(program, 2, (1, 1, 1))[2]
        longer, paper = chains.over(program, 2, NAMES), chainpapers.over_paper(program, 2, paper)
        value = valuetexts.read_value(longer[0], "inlist", "inmore(one,inmore(two(one),inend))")
        due = needs.need(longer, 3, (value,), 500)
        self.assertEqual(due[0], 5)
        for turn, turn_paper, where in ((turned.written_out, turnedpapers.written_paper, (3, 3)),
                                        (turned.named, turnedpapers.named_paper, (3, 0, "x")),
                                        (turned.written_out, turnedpapers.written_paper, (3, 9))):
            longer, paper = turn(longer, *where), turn_paper(longer, *where, paper)
            self.assertIs(papers.checked(longer, paper), True)
            self.assertEqual(needs.need(longer, 3, (value,), 900), due)
            self.look_at_run(longer, paper, 3, (value,), 1, 900)
        again = read(writer.shown(longer))
        self.assertEqual(again, longer)
        self.look_at_gaps(longer, paper, 3, 4)


class ByChanceTest(Whole):
    def test_least_papers(self):
        """The second point."""
        source = random.Random(59)
        seen = {}
        for program, f, args in small_programs(source, 120):
            goal = goal_of(program, f, source.randint(0, 3))
            told = least.least(program, f, goal)
            full, whole = rows_in_full(program, least.all_rows(program, f, None)), goal_in_full(program, f, goal)
            seen[told[0]] = seen.get(told[0], 0) + 1
            if told[0] == "none":
                self.assertIs(shares.shows_none(full, told[1]), True)
                self.assertIs(shares.shows_ring(program, told[1], told[2]), True)
                self.assertTrue(ring_is_shown(program, told[1], told[2]))
                continue
            self.assertIs(shares.shows_price(full, whole, told[1], told[3]), True)
            self.look_at_run(program, told[2], f, args, source.choice((0, 3)), 100)
            # No other paper that is let by comes to less.
            for number in range(3):
                other = spare_paper(source, program)
                price = Fraction(sum(one * two for one, two in zip(whole, other[1])), other[0])
                self.assertGreaterEqual(price, Fraction(*told[1]))
        self.assertGreater(min(seen.values()), 20)

    def test_gaps(self):
        source = random.Random(60)
        for program, f, args in small_programs(source, 40):
            paper = spare_paper(source, program)
            if paper is not None and len(args) < 3:
                self.look_at_gaps(program, paper, f, 3)

    def turn(self, source, program, paper):
        """A turn by chance, of program and paper; both as they were where it is refused."""
        f = source.randrange(len(program[1]))
        n = source.randrange(len(places.pieces(program[1][f][3])))
        bound = [name for name, kind in places.kinds_at(program, f, n)]
        turn, turn_paper, where = source.choice(
            ((turned.written_out, turnedpapers.written_paper, (f, n)), (turned.moved, turnedpapers.moved_paper, (f, n)),
             (turned.named, turnedpapers.named_paper, (f, n, source.choice(bound or ["x"])))))
        try:
            longer = turn(program, *where)
        except NoTurn:
            return program, paper
        return longer, turn_paper(program, *where, paper)

    def chain(self, source, program, paper, name):
        f = source.randrange(len(program[1]))
        fit = [g for g, one in enumerate(program[1]) if len(one[1]) == 1 and one[1][0][1] == program[1][f][2]]
        try:
            g = source.choice(fit or [f])
            if fit:
                told = chainpapers.chained_paper(program, f, g, paper)
                return chains.chained(program, f, g, name), told
        except NoChain:
            pass
        return program, paper

    def over(self, program, paper, sign):
        fit = [f for f, one in enumerate(program[1]) if len(one[1]) == 1]
        names = [sign + sign + name for name in ("a", "b", "c", "d", "e", "f", "g")]
        if not fit:
            return program, paper
        return chains.over(program, fit[-1], names), chainpapers.over_paper(program, fit[-1], paper)

    def test_one_behind_the_other(self):
        """The fourth point, and the first one of what comes of it."""
        source = random.Random(61)
        grown = 0
        for program, f, args in sound_programs(source, 60, 5):
            paper = spare_paper(source, program)
            if paper is None:
                continue
            begun, asked = program, papers.asks(program, paper, f, args)
            due = needs.ran(program, f, args, 10**8, 100)
            for number in range(8):
                step = source.choice("tttco")
                if step == "c":
                    program, paper = self.chain(source, program, paper, "chain" + "abcdefgh"[number])
                elif step == "o" and len(program[0]) < 6:
                    program, paper = self.over(program, paper, "pqrstuvw"[number])
                elif max(len(places.pieces(one[3])) for one in program[1]) < 80:
                    program, paper = self.turn(source, program, paper)
                self.assertIs(sound.look(program), True)
                self.assertIs(papers.checked(program, paper), True)
            self.assertEqual(papers.asks(program, paper, f, args), asked)
            if due[0][0] in ("gave", "short"):
                self.assertEqual(needs.ran(program, f, args, 10**8, 2000)[:2], due[:2])
            grown += len(rows.unknowns(program)) > len(rows.unknowns(begun))
            g = len(program[1]) - 1
            options = inputs.inputs(program[0], tuple(kind for name, kind in program[1][g][1]), 3)
            for more in options[:2]:
                self.look_at_run(program, paper, g, more, 0, 80)
        self.assertGreater(grown, 20)


class EveryFunctionTest(unittest.TestCase):
    """Nothing handed in is changed, what is told is the asker's own, and asked again each tells the same."""

    def calls(self):
        paper = least.least(LIST_PROGRAM, 0, (1, 1, 1, 1, 1))[2]
        value = ("more", (("one", ()), ("nil", ())))
        walk = Walk(LIST_PROGRAM, 0, [value], 9)
        walk.turn()
        full = rows_in_full(LIST_PROGRAM)
        ring = read("kind lone only\ndef f x lone to lone : pay 4 ; let y call f x ; give y")
        return [
            (writer.shown, [LIST_PROGRAM]), (read, [LIST_TEXT]), (kinds.makers_of, [LIST_PROGRAM[0], "list"]),
            (kinds.within, [LIST_PROGRAM[0], "list"]), (kinds.kind_of_maker, [LIST_PROGRAM[0], "more"]),
            (sound.look, [LIST_PROGRAM]), (values.is_value, [LIST_PROGRAM[0], "list", value]), (values.size, [value]),
            (values.counts, [value]), (values.key, [LIST_PROGRAM[0], value]), (valuetexts.show_value, [value]),
            (valuetexts.read_value, [LIST_PROGRAM[0], "list", "more(one,nil)"]),
            (inputs.values_of, [LIST_PROGRAM[0], "list", 5]), (inputs.inputs, [LIST_PROGRAM[0], ("item", "list"), 5]),
            (needs.ran, [LIST_PROGRAM, 0, [value], 9, 100]), (needs.need, [LIST_PROGRAM, 0, [value], 100]),
            (places.pieces, [LIST_PROGRAM[1][0][3]]), (places.way, [LIST_PROGRAM[1][0][3], 4]),
            (places.kinds_at, [LIST_PROGRAM, 0, 4]), (rows.unknowns, [LIST_PROGRAM]), (rows.rows, [LIST_PROGRAM]),
            (papers.checked, [LIST_PROGRAM, paper]), (papers.asks, [LIST_PROGRAM, paper, 0, [value]]),
            (papers.tells, [LIST_PROGRAM, paper, 0, value]), (papers.held, [LIST_PROGRAM, paper, walk.frames()]),
            (sums.settled, [full, (1,) * len(paper[1])]), (least.all_rows, [LIST_PROGRAM, 0, (1, 2, 3, 4, 5)]),
            (least.least, [LIST_PROGRAM, 0, (1, 1, 1, 1, 1)]), (least.least, [ring, 0, (1, 1)]),
            (shares.shows_price, [full, (1,) * len(paper[1]), (1, 1), (1, (0,) * len(full))]),
            (shares.shows_none, [full, (0,) * len(full)]), (shares.shows_ring, [ring, (1,) * 5, [(0, 1)]]),
            (gaps.gap, [LIST_PROGRAM, paper, 0, [value], 100]), (gaps.gaps, [LIST_PROGRAM, paper, 0, 5, 100]),
            (turned.written_out, [LIST_PROGRAM, 0, 4]), (turned.moved, [LIST_PROGRAM, 1, 0]),
            (turned.named, [LIST_PROGRAM, 0, 4, "x"]), (turnedpapers.written_paper, [LIST_PROGRAM, 0, 4, paper]),
            (turnedpapers.moved_paper, [LIST_PROGRAM, 1, 0, paper]),
            (turnedpapers.named_paper, [LIST_PROGRAM, 0, 4, "x", paper]), (chains.chained, [LIST_PROGRAM, 0, 0, "twice"]),
            (chains.over, [LIST_PROGRAM, 0, list(NAMES)]), (chainpapers.chained_paper, [LIST_PROGRAM, 2, 0, self.cheap()]),
            (chainpapers.over_paper, [LIST_PROGRAM, 0, paper]), (desk.answer, [LIST_TEXT, "least copy 1 1 1 1 1"]),
        ]

    def cheap(self):
        """A paper by which a fresh list is worth two coins for each thing in it."""
        return least.least(LIST_PROGRAM, 2, (1,), (0, 0, 0, 1000, 0))[2]

    def spoil(self, told):
        """Empties every list and dict that was told, within one another too."""
        if isinstance(told, dict):
            for part in list(told.values()):
                self.spoil(part)
            told.clear()
        elif isinstance(told, (list, tuple)):
            for part in told:
                self.spoil(part)
            if isinstance(told, list):
                told.clear()

    def test_each(self):
        for function, words in self.calls():
            kept = copy.deepcopy(words)
            first = function(*words)
            self.assertEqual(words, kept, function.__name__)
            due = copy.deepcopy(first)
            second = function(*words)
            self.spoil(second)
            self.assertEqual(first, due, function.__name__)
            self.assertEqual(words, kept, function.__name__)
            self.assertEqual(function(*words), due, function.__name__)

    def test_what_is_done_later_to_what_was_handed_in(self):
        for function, words in self.calls():
            first = function(*words)
            due = copy.deepcopy(first)
            self.spoil(words)
            self.assertEqual(first, due, function.__name__)

    def test_a_walk(self):
        args = [("more", (("one", ()), ("nil", ())))]
        walk, other = Walk(LIST_PROGRAM, 0, args, 9), Walk(LIST_PROGRAM, 0, list(args), 9)
        args.clear()
        while True:
            self.spoil(walk.frames())
            self.assertEqual(walk.frames(), other.frames())
            if not (walk.turn() and other.turn()):
                break
        other.turn()
        self.assertEqual((walk.end(), walk.purse(), walk.steps()), (other.end(), other.purse(), other.steps()))


if __name__ == "__main__":
    unittest.main()
