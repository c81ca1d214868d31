"""What several tests share: programs of the form, made by chance from a fixed seed, and their texts told anew."""

import itertools
import re
from fractions import Fraction

from pursewright.errors import NoProgram
from pursewright.inputs import inputs
from pursewright.rows import rows, unknowns
from pursewright.sound import look
from pursewright.sums import settled

KEPT = ("kind", "def", "to", "let", "make", "call", "name", "case", "end", "pay", "get", "give")
PIECES = ("give", "make", "call", "name", "pay", "get", "case")

LIST_TEXT = "\n".join(
    [
        "kind item one | two item",
        "kind list nil | more item list",
        "def copy x list to list : case x nil : let e make nil ; give e"
        " | more a b : pay 2 ; let c call copy b ; let d make more a c ; give d end",
        "def same y item to item : let z name y ; get 7 ; give z",
        "def fresh to list : let e make nil ; give e",
    ]
)
LIST_PROGRAM = (
    (
        ("item", (("one", ()), ("two", ("item",)))),
        ("list", (("nil", ()), ("more", ("item", "list")))),
    ),
    (
        (
            "copy",
            (("x", "list"),),
            "list",
            (
                "case",
                "x",
                (
                    ("nil", (), ("make", "e", "nil", (), ("give", "e"))),
                    (
                        "more",
                        ("a", "b"),
                        (
                            "pay",
                            2,
                            ("call", "c", "copy", ("b",), ("make", "d", "more", ("a", "c"), ("give", "d"))),
                        ),
                    ),
                ),
            ),
        ),
        ("same", (("y", "item"),), "item", ("name", "z", "y", ("get", 7, ("give", "z")))),
        ("fresh", (), "list", ("make", "e", "nil", (), ("give", "e"))),
    ),
)

NAME = "(?!(?:" + "|".join(KEPT) + ")(?![^ ]))[a-z]{1,8}(?![^ ])"
NAMES = "(?: " + NAME + ")*"
COINS = "[1-9][0-9]{0,6}"
ARM = NAME + NAMES + " : BODY"
BODY = re.compile(
    "(?<![^ ])(?:"
    + "|".join(
        [
            "give " + NAME,
            "let " + NAME + " (?:make|call) " + NAME + NAMES + " ; BODY",
            "let " + NAME + " name " + NAME + " ; BODY",
            "(?:pay|get) " + COINS + " ; BODY",
            "case " + NAME + " " + ARM + "(?: [|] " + ARM + ")* end",
        ]
    )
    + ")(?![^ ])"
)
MAKER = NAME + NAMES
KIND_ROW = re.compile("kind " + NAME + " " + MAKER + "(?: [|] " + MAKER + ")*")
DEF_ROW = re.compile("def " + NAME + "(?: " + NAME + " " + NAME + ")* to " + NAME + " : BODY")


def is_kind_row(row):
    return KIND_ROW.fullmatch(row) is not None


def is_function_row(row):
    """Bodies are folded from the inside out, until none is left to fold."""
    folded = row
    while "BODY" not in row:
        once = BODY.sub("BODY", folded)
        if once == folded:
            return DEF_ROW.fullmatch(folded) is not None
        folded = once
    return False


def first_wrong_row(text):
    """The number of the first row that is none, None where all are right."""
    functions = False
    for number, row in enumerate(text.split("\n") if text else []):
        if is_function_row(row):
            functions = True
        elif functions or not is_kind_row(row):
            return number
    return None


def text_of(program):
    kinds = [
        "kind " + name + " " + " | ".join(" ".join((maker,) + fields) for maker, fields in makers)
        for name, makers in program[0]
    ]
    functions = [
        " ".join(["def", name] + [x + " " + of for x, of in params] + ["to", kind, ":", body_text(body)])
        for name, params, kind, body in program[1]
    ]
    return "\n".join(kinds + functions)


def body_text(body):
    word = body[0]
    if word == "give":
        return "give " + body[1]
    if word in ("make", "call"):
        return " ".join(("let", body[1], word, body[2]) + body[3] + (";", body_text(body[4])))
    if word == "name":
        return f"let {body[1]} name {body[2]} ; {body_text(body[3])}"
    if word in ("pay", "get"):
        return f"{word} {body[1]} ; {body_text(body[2])}"
    arms = [" ".join((maker,) + names + (":", body_text(inner))) for maker, names, inner in body[2]]
    return f"case {body[1]} {' | '.join(arms)} end"


class Chance:
    """Programs of the form, sound hardly ever, made by chance."""

    def __init__(self, source):
        self.source = source

    def name(self):
        while True:
            name = "".join(self.source.choice("abcdefgiklmnopty") for _ in range(self.source.randint(1, 8)))
            if name not in KEPT:
                return name

    def names(self, most):
        return tuple(self.name() for _ in range(self.source.randint(0, most)))

    def coins(self):
        return self.source.choice((1, 9, 10, 4050, 999999, 1000000, 9999999, self.source.randint(1, 9999999)))

    def body(self, depth):
        word = self.source.choice(PIECES) if depth else "give"
        if word == "give":
            return ("give", self.name())
        if word in ("make", "call"):
            return (word, self.name(), self.name(), self.names(4), self.body(depth - 1))
        if word == "name":
            return ("name", self.name(), self.name(), self.body(depth - 1))
        if word in ("pay", "get"):
            return (word, self.coins(), self.body(depth - 1))
        arms = range(self.source.randint(1, 3))
        return ("case", self.name(), tuple((self.name(), self.names(3), self.body(depth - 1)) for _ in arms))

    def kind(self):
        makers = range(self.source.randint(1, 4))
        return (self.name(), tuple((self.name(), self.names(4)) for _ in makers))

    def function(self):
        params = tuple((name, self.name()) for name in self.names(4))
        return (self.name(), params, self.name(), self.body(self.source.randint(0, 6)))

    def program(self):
        kinds = tuple(self.kind() for _ in range(self.source.randint(0, 3)))
        return (kinds, tuple(self.function() for _ in range(self.source.randint(0, 3))))


def widest_program():
    """As many kinds, makers, fields, functions, params and pieces as the bounds let be; it is sound."""
    fields = ("aaaaaaaa", "bbbbbbbb", "cccccccc", "ffffffff")
    kinds = tuple((of * 8, tuple((of + letter * 7, fields) for letter in "abcdef")) for of in "abcdef")
    params = (("x", "aaaaaaaa"), ("y", "bbbbbbbb"), ("z", "aaaaaaaa"), ("w", "ffffffff"))
    bodies = [widest_body()] + [("give", "x")] * 7
    return (kinds, tuple((of * 8, params, "aaaaaaaa", body) for of, body in zip("abcdefgh", bodies)))


def widest_body():
    """60 pieces, 40 of them one below another."""
    return six_arms("x", deep_body(17, six_arms("z", deep_body(20, ("give", "x")))))


def six_arms(looked, last):
    """A case over the first kind of the widest program, with names of the one that is looked at."""
    names = tuple(looked + letter for letter in "abcd")
    bodies = [deep_body(1, ("give", "x"))] * 5 + [last]
    return ("case", looked, tuple(("a" + letter * 7, names, body) for letter, body in zip("abcdef", bodies)))


def deep_body(pieces, body):
    """So many pays and gets ahead of the body."""
    for number in range(pieces):
        body = ("get" if number else "pay", 9999999 - number, body)
    return body


def count_pieces(body):
    if body[0] == "give":
        return 1
    if body[0] == "case":
        return 1 + sum(count_pieces(arm[2]) for arm in body[2])
    return 1 + count_pieces(body[-1])


def depth(body):
    if body[0] == "give":
        return 1
    if body[0] == "case":
        return 1 + max(depth(arm[2]) for arm in body[2])
    return 1 + depth(body[-1])


class SoundChance(Chance):
    """Programs made by chance, sound but where a give finds nothing of its kind; names over sorts may be alike."""

    NAMES = tuple("abcdefg")

    def some(self, things, most):
        return tuple(self.source.choice(things) for _ in range(self.source.randint(0, most)))

    def program(self):
        kinds = self.source.sample(self.NAMES, self.source.randint(1, 3))
        free = self.source.sample(self.NAMES, 7)
        self.kinds = tuple(
            (kind, tuple((free.pop(), self.some(kinds, 2)) for _ in range(self.source.randint(1, 2)))) for kind in kinds
        )
        names = self.source.sample(self.NAMES, self.source.randint(1, 3))
        self.heads = [(name, self.params(kinds), self.source.choice(kinds)) for name in names]
        functions = tuple(head + (self.sound_body(head[2], dict(head[1]), 5),) for head in self.heads)
        return (self.kinds, functions)

    def params(self, kinds):
        names = self.source.sample(self.NAMES, self.source.randint(1, 3))
        return tuple((name, self.source.choice(kinds)) for name in names)

    def sound_body(self, kind, bound, depth):
        fit = [name for name in bound if bound[name] == kind]
        free = [name for name in self.NAMES + ("h", "i", "j", "k", "l", "m", "n", "o") if name not in bound]
        word = self.source.choice(("make", "call", "name", "pay", "case") if depth else ("give",))
        if word in ("make", "call"):
            return self.use(word, kind, bound, depth, free)
        if word == "name":
            looked = self.source.choice(sorted(bound))
            inner = self.sound_body(kind, dict(bound, **{free[0]: bound[looked]}), depth - 1)
            return ("name", free[0], looked, inner)
        if word == "pay":
            return (self.source.choice(("pay", "get")), self.coins(), self.sound_body(kind, bound, depth - 1))
        if word == "case":
            return self.case(kind, bound, depth, free)
        return ("give", self.source.choice(fit or sorted(bound)))

    def use(self, word, kind, bound, depth, free):
        if word == "make":
            options = [(maker, fields, of) for of, makers in self.kinds for maker, fields in makers]
        else:
            options = [(name, tuple(of for _, of in params), made) for name, params, made in self.heads]
        options = [option for option in options if all(of in bound.values() for of in option[1])]
        if not options:
            return self.sound_body(kind, bound, depth - 1)
        used, due, made = self.source.choice(options)
        names = tuple(self.source.choice([name for name in sorted(bound) if bound[name] == of]) for of in due)
        fresh = self.source.choice(free)
        return (word, fresh, used, names, self.sound_body(kind, dict(bound, **{fresh: made}), depth - 1))

    def case(self, kind, bound, depth, free):
        looked = self.source.choice(sorted(bound))
        arms = []
        for maker, fields in dict(self.kinds)[bound[looked]]:
            names = tuple(self.source.sample(free, len(fields)))
            inner = dict(bound, **dict(zip(names, fields)))
            arms.append((maker, names, self.sound_body(kind, inner, max(depth - 2, 0))))
        return ("case", looked, tuple(arms))


def chance_value(source, kinds, kind, depth):
    """A value of the kind with at most so many makers within one another; each kind has makers without fields."""
    makers = dict(kinds)[kind]
    flat = [maker for maker in makers if not maker[1]]
    maker, fields = source.choice(makers if depth > 1 else flat)
    return (maker, tuple(chance_value(source, kinds, field, depth - 1) for field in fields))


def nested(maker, value, times):
    """The maker, of one field, so many times around the value."""
    for number in range(times):
        value = (maker, (value,))
    return value


class RunEnds(Exception):
    """How a run that is told anew ended ahead of its outermost give."""


class RunTold:
    """A run told anew: a generator for each frame, which yields ahead of each step."""

    def __init__(self, program, f, args, coins):
        self.functions = program[1]
        self.purse = coins
        self.stack = []
        self.going = self.run(f, args)

    def run(self, f, args):
        frame = [f, 0, dict(zip([name for name, kind in self.functions[f][1]], args))]
        self.stack.append(frame)
        names, piece = frame[2], self.functions[f][3]
        while True:
            yield
            if piece[0] == "give":
                self.stack.pop()
                return names[piece[1]]
            if piece[0] == "call":
                called = [function[0] for function in self.functions].index(piece[2])
                names[piece[1]] = yield from self.run(called, [names[name] for name in piece[3]])
            else:
                self.do(piece, names)
            frame[1] += 1
            piece = self.arm(frame, piece) if piece[0] == "case" else piece[-1]

    def do(self, piece, names):
        if piece[0] == "make":
            made = (piece[2], tuple(names[name] for name in piece[3]))
            if size_told(made) > 200 or depth_told(made) > 60:
                raise RunEnds(("great", piece[2]))
            names[piece[1]] = made
        elif piece[0] == "name":
            names[piece[1]] = names[piece[2]]
        elif piece[0] == "pay":
            if self.purse < piece[1]:
                raise RunEnds(("short", piece[1]))
            self.purse -= piece[1]
        elif piece[0] == "get":
            self.purse += piece[1]

    def arm(self, frame, piece):
        maker, parts = frame[2][piece[1]]
        number = [arm[0] for arm in piece[2]].index(maker)
        frame[1] += sum(count_pieces(arm[2]) for arm in piece[2][:number])
        frame[2].update(zip(piece[2][number][1], parts))
        return piece[2][number][2]

    def frames(self):
        return [(f, number, dict(names)) for f, number, names in self.stack]

    def turn(self):
        """None, or the end; what frames and purse are then is theirs behind the turn."""
        try:
            next(self.going)
        except RunEnds as ends:
            self.stack = []
            return ends.args[0]
        except StopIteration as ends:
            return ("gave", ends.value)
        return None


def size_told(value):
    return 1 + sum(size_told(part) for part in value[1])


def depth_told(value):
    return 1 + max([0] + [depth_told(part) for part in value[1]])


def run_told(program, f, args, coins, most):
    """All that a run passes, told anew: (frames, purse) ahead of each step, then (end or None, purse, steps)."""
    run = RunTold(program, f, args, coins)
    end = run.turn()
    passed = []
    while end is None and len(passed) < most:
        passed.append((run.frames(), run.purse))
        end = run.turn()
    return passed, (end, run.purse, len(passed))


def sound_programs(source, often, most):
    """Sound programs made by chance, each with a function's number and args of at most so many makers for it."""
    told = []
    while len(told) < often:
        program = SoundChance(source).program()
        try:
            look(program)
        except NoProgram:
            continue
        f = source.randrange(len(program[1]))
        some = tuple(kind for name, kind in program[1][f][1])
        options = inputs(program[0], some, source.randint(len(some), most))
        if options:
            told.append((program, f, source.choice(options)))
    return told


def ways(body, above=(), numbers=None):
    """The way to each piece, in order, told anew: tuples of (number, piece, arm taken there, None at the last)."""
    numbers = itertools.count() if numbers is None else numbers
    number = next(numbers)
    yield above + ((number, body, None),)
    arms = body[2] if body[0] == "case" else () if body[0] == "give" else ((None, (), body[-1]),)
    for arm in arms:
        yield from ways(arm[2], above + ((number, body, arm),), numbers)


def bound_on(program, f, way):
    """All names bound ahead of a way's last piece, told anew: (name, kind, where from) in order.

    Where from is an unknown without its maker.
    """
    makers = {maker: (kind, fields) for kind, own in program[0] for maker, fields in own}
    heads = {function[0]: (g, function[2]) for g, function in enumerate(program[1])}
    told = [(name, kind, ("param", f, k)) for k, (name, kind) in enumerate(program[1][f][1])]
    for number, piece, arm in way[:-1]:
        if piece[0] == "make":
            told.append((piece[1], makers[piece[2]][0], ("piece", f, number)))
        elif piece[0] == "name":
            kind = {name: kind for name, kind, source in told}[piece[2]]
            told.append((piece[1], kind, ("piece", f, number)))
        elif piece[0] == "call":
            told.append((piece[1], heads[piece[2]][1], ("result", heads[piece[2]][0])))
        elif piece[0] == "case":
            told.extend((name, kind, ("piece", f, number)) for name, kind in zip(arm[1], makers[arm[0]][1]))
    return told


def rows_in_full(program, some=None):
    """The program's rows, or some others over its unknowns, as settled takes them: a weight for each unknown."""
    many = len(unknowns(program))
    told = rows(program) if some is None else some
    return [(tuple(weights.get(place, 0) for place in range(many)), least) for why, weights, least in told]


def goal_in_full(program, f, goal):
    """The goal of a least paper for function f, with a number for each unknown."""
    left = list(goal)
    told = [left.pop(0) if one[:2] in (("param", f), ("first", f)) else 0 for one in unknowns(program)]
    assert not left
    return tuple(told)


def dot(one, other):
    return sum(a * b for a, b in zip(one, other, strict=True))


def price_is_shown(rows, goal, price, shares):
    """Told anew, of shares that are as many as the rows."""
    bottom, numbers = shares
    if price[1] < 1 or bottom < 1 or [number for number in numbers if number < 0]:
        return False
    taken = [dot(numbers, [weights[place] for weights, least in rows]) for place in range(len(goal))]
    if [place for place, number in enumerate(goal) if taken[place] > bottom * number]:
        return False
    return Fraction(dot(numbers, [least for weights, least in rows]), bottom) == Fraction(*price)


def none_is_shown(rows, many, numbers):
    """Told anew, of shares that are as many as the rows, which are over so many unknowns."""
    if [number for number in numbers if number < 0]:
        return False
    taken = [dot(numbers, [weights[place] for weights, least in rows]) for place in range(many)]
    return max(taken, default=0) <= 0 and dot(numbers, [least for weights, least in rows]) > 0


def ring_is_shown(program, shares, ring):
    """Told anew, of pairs that are there."""
    names = [function[0] for function in program[1]]
    steps = set()
    for (why, weights, least), share in zip(rows(program), shares):
        if share > 0:
            way = [way for way in ways(program[1][why[1]][3]) if way[-1][0] == why[2]][0]
            steps |= {(why[1], number): names.index(piece[2]) for number, piece, arm in way if piece[0] == "call"}.items()
    onward = ring[1:] + ring[:1]
    return bool(ring) and all((tuple(pair), after[0]) in steps for pair, after in zip(ring, onward))


def small_programs(source, often, least=0):
    """Sound programs made by chance of at most 60 unknowns, at least so many, and 160 rows, those of wishes too."""
    told = []
    while len(told) < often:
        program, f, args = sound_programs(source, 1, 5)[0]
        if least <= len(unknowns(program)) <= 60 and len(rows(program)) <= 140:
            told.append((program, f, args))
    return told


def paper_by_chance(source, program):
    """A paper that is let by, None where there is none: the least for a goal made by chance, and something more."""
    goals = [tuple(source.choice((0, 1, 1, 3)) for _ in unknowns(program)) for number in range(2)]
    told = [settled(rows_in_full(program), goal) for goal in goals]
    if told[0][0] == "none":
        return None
    papers = [one[2] for one in told[: source.randint(1, 2)]]
    # Rows that two papers keep are kept by their sum, over the parts of both.
    times = [source.randint(1, 3) for paper in papers]
    parts = sum(often * paper[0] for often, paper in zip(times, papers))
    numbers = [sum(often * one for often, one in zip(times, column)) for column in zip(*(paper[1] for paper in papers))]
    return (parts, tuple(numbers))


def spare_paper(source, program):
    """A paper that is let by with things to spare, where there is one: rows ask for more than they would."""
    for tries in range(3):
        full = [(weights, least + source.choice((0, 0, 1, 5))) for weights, least in rows_in_full(program)]
        told = settled(full, tuple(source.choice((0, 1, 1, 3)) for _ in unknowns(program)))
        if told[0] == "least":
            times = source.randint(1, 3)
            return (times * told[2][0], tuple(times * number for number in told[2][1]))
    return paper_by_chance(source, program)
