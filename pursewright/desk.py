"""The desk: takes a program's text and a row, and answers by a text."""

from pursewright.errors import NoRow
from pursewright.functions import number_of
from pursewright.least import goal_places, least
from pursewright.needs import need, ran
from pursewright.reader import read
from pursewright.rows import unknowns
from pursewright.sound import look
from pursewright.sums import measure_of_both
from pursewright.valuetexts import read_value, show_value
from pursewright.words import FIGURES, is_of

MOST_STEPS = 1000
MOST_OF_A_GOAL = 1000
LONGEST_NUMBER = 9


def answer(text, row):
    """The answer to the row; else NoText, NoProgram, NoRow or NoValue."""
    program = read(text)
    look(program)
    words = row.split(" ")
    if "" in words or len(words) < 2:
        raise NoRow()
    f = number_of(program[1], words[1])
    if f is None:
        raise NoRow()
    if words[0] == "run":
        return run_answer(program, f, words[2:])
    if words[0] == "need":
        return need_answer(program, f, words[2:])
    if words[0] == "least":
        return least_answer(program, f, words[2:])
    raise NoRow()


def run_answer(program, f, words):
    """Words: coins, and behind them values."""
    coins = numbers_in(words[:1], 1)[0]
    told = ran(program, f, values_in(program, f, words[1:]), coins, MOST_STEPS)
    end = told[0]
    parts = [end[0]]
    if end[0] == "gave":
        parts.append(show_value(end[1]))
    elif end[0] != "late":
        parts.append(str(end[1]))
    return " ".join(parts + ["left", str(told[1])])


def need_answer(program, f, words):
    """Words: values."""
    told = need(program, f, values_in(program, f, words), MOST_STEPS)
    parts = ["needs", str(told[0])]
    if told[1][0] != "gave":
        parts.append(told[1][0])
    return " ".join(parts)


def least_answer(program, f, words):
    """Words: the goal's numbers."""
    places = goal_places(program, f)
    goal = numbers_in(words, len(places))
    if max(goal) > MOST_OF_A_GOAL:
        raise NoRow()
    told = least(program, f, tuple(goal))
    if told[0] == "none":
        return " ".join(["none"] + [call_shown(program, pair) for pair in told[2]])
    return " ".join(["price " + fraction(told[1][0], told[1][1])] + prices_shown(program, f, places, told[2]))


def call_shown(program, pair):
    return program[1][pair[0]][0] + ":" + str(pair[1])


def prices_shown(program, f, places, paper):
    """What the paper asks of function f: params' weights above 0, and first."""
    known = unknowns(program)
    told = []
    for place in places:
        unknown = known[place]
        shown = fraction(paper[1][place], paper[0])
        if unknown[0] == "first":
            told.append("+" + shown)
        elif paper[1][place] > 0:
            told.append(program[1][f][1][unknown[2]][0] + "." + unknown[3] + "=" + shown)
    return told


def fraction(top, bottom):
    """The text of a fraction, in lowest terms."""
    measure = measure_of_both(top, bottom)
    return str(top // measure) + "/" + str(bottom // measure)


def numbers_in(words, many):
    """The numbers that so many words write, or NoRow."""
    if len(words) != many or not all([is_number(word) for word in words]):
        raise NoRow()
    return [int(word) for word in words]


def is_number(word):
    return is_of(word, FIGURES, LONGEST_NUMBER) and (word == "0" or word[0] != "0")


def values_in(program, f, words):
    """The args of function f that the words write; NoRow where they are too few or too many, else NoValue."""
    params = program[1][f][1]
    if len(words) != len(params):
        raise NoRow()
    return [read_value(program[0], param[1], word) for param, word in zip(params, words)]
