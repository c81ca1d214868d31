"""Reads a program from its text."""

from pursewright.errors import NoText
from pursewright.words import is_coins, is_name


def read(text):
    """The program that the text tells, or NoText with the number of the first row that is none."""
    kinds = []
    functions = []
    rows = text.split("\n") if text != "" else []
    for number, row in enumerate(rows):
        words = RowWords(row, number)
        if words.ahead() == "kind" and not functions:
            kinds.append(read_kind(words))
        else:
            functions.append(read_function(words))
    return (tuple(kinds), tuple(functions))


class RowWords:
    """The words of one row, taken from the left; one that doesn't fit is refused with the row's number."""

    def __init__(self, row, number):
        self.words = row.split(" ")
        self.number = number
        self.place = 0

    def ahead(self):
        """The word that is taken next; behind the last one the text without signs, which fits nowhere."""
        return self.words[self.place] if self.has_more() else ""

    def has_more(self):
        return self.place < len(self.words)

    def take(self):
        word = self.ahead()
        self.place += 1
        return word

    def take_due(self, due):
        if self.take() != due:
            raise NoText(self.number)

    def take_name(self):
        word = self.take()
        if not is_name(word):
            raise NoText(self.number)
        return word

    def take_names_to(self, due):
        """The names, perhaps none, up to the due word, which is taken too."""
        names = []
        while self.ahead() != due:
            names.append(self.take_name())
        self.take_due(due)
        return tuple(names)

    def take_coins(self):
        word = self.take()
        if not is_coins(word):
            raise NoText(self.number)
        return int(word)

    def finish(self):
        if self.has_more():
            raise NoText(self.number)


class OpenCase:
    """A case whose end hasn't come yet."""

    def __init__(self, heads, looked):
        self.heads = heads
        self.looked = looked
        self.arms = []
        self.arm_head = ()

    def begin_arm(self, words):
        maker = words.take_name()
        self.arm_head = (maker, words.take_names_to(":"))

    def finish_arm(self, body):
        self.arms.append(self.arm_head + (body,))

    def whole(self):
        return under_heads(self.heads, ("case", self.looked, tuple(self.arms)))


def read_kind(words):
    words.take_due("kind")
    name = words.take_name()
    makers = [read_maker(words)]
    while words.has_more():
        words.take_due("|")
        makers.append(read_maker(words))
    return (name, tuple(makers))


def read_maker(words):
    maker = words.take_name()
    fields = []
    while words.has_more() and words.ahead() != "|":
        fields.append(words.take_name())
    return (maker, tuple(fields))


def read_function(words):
    words.take_due("def")
    name = words.take_name()
    params = []
    while words.ahead() != "to":
        param = words.take_name()
        params.append((param, words.take_name()))
    words.take_due("to")
    kind = words.take_name()
    words.take_due(":")
    body = read_body(words)
    words.finish()
    return (name, tuple(params), kind, body)


def read_body(words):
    """The body that begins at the next word."""
    # Open cases wait on a list: bodies may lie deeper than calls of a function should.
    cases = []
    heads = []
    while True:
        word = words.take()
        if word == "case":
            cases.append(OpenCase(heads, words.take_name()))
            cases[-1].begin_arm(words)
            heads = []
        elif word == "give":
            whole = close_arms(words, cases, under_heads(heads, ("give", words.take_name())))
            if whole is not None:
                return whole
            heads = []
        else:
            heads.append(read_head(words, word))


def close_arms(words, cases, body):
    """Puts the body into the innermost open case, and each case that ends there into the one around it.

    Tells the whole body where no case is left open, None where another arm is begun.
    """
    while cases:
        cases[-1].finish_arm(body)
        if words.ahead() == "|":
            words.take_due("|")
            cases[-1].begin_arm(words)
            return None
        words.take_due("end")
        body = cases.pop().whole()
    return body


def under_heads(heads, body):
    """The body with the pieces of these heads ahead of it."""
    for head in reversed(heads):
        body = head + (body,)
    return body


def read_head(words, word):
    """A let, pay or get behind its first word, without its body."""
    if word == "let":
        return read_let(words)
    if word != "pay" and word != "get":
        raise NoText(words.number)
    coins = words.take_coins()
    words.take_due(";")
    return (word, coins)


def read_let(words):
    bound = words.take_name()
    word = words.take()
    if word != "make" and word != "call" and word != "name":
        raise NoText(words.number)
    used = words.take_name()
    if word == "name":
        words.take_due(";")
        return (word, bound, used)
    return (word, bound, used, words.take_names_to(";"))
