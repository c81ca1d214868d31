"""The texts of values."""

from pursewright.errors import NoValue
from pursewright.values import is_value


def show_value(value):
    """The text of the value."""
    # What is still to be written waits on a list: values may lie deeper than calls of a function should.
    told = []
    waiting = [value]
    while waiting:
        thing = waiting.pop()
        if isinstance(thing, str):
            told.append(thing)
        else:
            waiting.extend(list(reversed(unfolded_value(thing))))
    return "".join(told)


def unfolded_value(value):
    """The signs of a value and its parts, from the left."""
    things = [value[0]]
    for number, part in enumerate(value[1]):
        things.append("(" if number == 0 else ",")
        things.append(part)
    if value[1]:
        things.append(")")
    return things


def read_value(kinds, kind, text):
    """The value of the kind that the text writes, or NoValue."""
    written = Written()
    for sign in text:
        written.put(sign)
    written.end_word()
    # What was put together without looking at each sign's place is right just where it has this very text.
    value = written.only_thing()
    if not is_value(kinds, kind, value) or show_value(value) != text:
        raise NoValue()
    return value


class Written:
    """What the signs so far have written: open makers, and for each the parts that stand behind its bracket."""

    def __init__(self):
        self.word = ""
        self.makers = []
        # The first list is of what stands in no bracket.
        self.layers = [[]]

    def put(self, sign):
        if sign == "(":
            self.makers.append(self.word)
            self.layers.append([])
            self.word = ""
        elif sign == ",":
            self.end_word()
        elif sign == ")":
            self.end_word()
            self.close()
        else:
            self.word += sign

    def end_word(self):
        """A word that no bracket opens behind is a value without parts."""
        if self.word != "":
            self.layers[-1].append((self.word, ()))
            self.word = ""

    def close(self):
        if not self.makers:
            raise NoValue()
        parts = self.layers.pop()
        self.layers[-1].append((self.makers.pop(), tuple(parts)))

    def only_thing(self):
        """The one thing that stands in no bracket, None where there are none or more."""
        return self.layers[0][0] if len(self.layers[0]) == 1 else None
