"""Runs a function of a program, step by step."""

from pursewright.functions import number_of
from pursewright.places import pieces
from pursewright.values import depth, size

MOST_MAKERS = 200
MOST_WITHIN = 60


class Frame:
    """A function that is being run: the piece that is done next, and the names bound so far."""

    def __init__(self, functions, f, values):
        self.f = f
        self.number = 0
        self.piece = functions[f][3]
        self.names = dict(zip([name for name, kind in functions[f][1]], values))

    def values_at(self, names):
        return tuple([self.names[name] for name in names])

    def go_on(self, body, between):
        """Goes on with the body, so many pieces lying between this piece and it."""
        self.piece = body
        self.number += 1 + between

    def go_on_with(self, value):
        """Goes on behind a piece that binds its first name to the value."""
        self.names[self.piece[1]] = value
        self.go_on(self.piece[-1], 0)

    def go_on_in_arm(self):
        """Goes on in the arm of a case that is due, its names bound to the parts."""
        piece = self.piece
        value = self.names[piece[1]]
        between = 0
        for maker, names, body in piece[2]:
            if maker == value[0]:
                self.names.update(list(zip(names, value[1])))
                self.go_on(body, between)
                return
            between += len(pieces(body))


class Walk:
    """A run of function f: its frames, the running one last, its purse, its steps and its end."""

    def __init__(self, program, f, args, coins):
        self.functions = program[1]
        self.running = [Frame(self.functions, f, args)]
        self.coins = coins
        self.done = 0
        self.ending = None

    def turn(self):
        """Does the running frame's piece; True while there is no end behind it, else False."""
        if self.ending is None:
            self.done += 1
            self.do(self.running[-1])
        return self.ending is None

    def frames(self):
        """A list of tuples: function's number, piece's number, a dict of names."""
        return [(frame.f, frame.number, dict(frame.names)) for frame in self.running]

    def purse(self):
        return self.coins

    def steps(self):
        return self.done

    def end(self):
        """None, or how the run ended."""
        return self.ending

    def do(self, frame):
        word = frame.piece[0]
        if word == "give":
            self.do_give(frame)
        elif word == "make":
            self.do_make(frame)
        elif word == "call":
            f = number_of(self.functions, frame.piece[2])
            self.running.append(Frame(self.functions, f, frame.values_at(frame.piece[3])))
        elif word == "name":
            frame.go_on_with(frame.names[frame.piece[2]])
        elif word == "case":
            frame.go_on_in_arm()
        else:
            self.do_coins(frame, word)

    def do_give(self, frame):
        value = frame.names[frame.piece[1]]
        self.running.pop()
        if self.running:
            self.running[-1].go_on_with(value)
        else:
            self.end_with(("gave", value))

    def do_make(self, frame):
        made = (frame.piece[2], frame.values_at(frame.piece[3]))
        if size(made) > MOST_MAKERS or depth(made) > MOST_WITHIN:
            self.end_with(("great", frame.piece[2]))
        else:
            frame.go_on_with(made)

    def do_coins(self, frame, word):
        coins = frame.piece[1]
        if word == "pay" and coins > self.coins:
            self.end_with(("short", coins))
        else:
            self.coins += coins if word == "get" else -coins
            frame.go_on(frame.piece[2], 0)

    def end_with(self, ending):
        self.ending = ending
        self.running = []
