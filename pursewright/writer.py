"""Writes the text of a program."""


def shown(program):
    """The one text that is read to the program."""
    rows = [kind_row(kind) for kind in program[0]]
    rows.extend([function_row(function) for function in program[1]])
    return "\n".join(rows)


def kind_row(kind):
    makers = [" ".join((maker,) + fields) for maker, fields in kind[1]]
    return "kind " + kind[0] + " " + " | ".join(makers)


def function_row(function):
    words = ["def", function[0]]
    for name, kind in function[1]:
        words.extend([name, kind])
    words.extend(["to", function[2], ":"])
    words.extend(body_words(function[3]))
    return " ".join(words)


def body_words(body):
    """The words of a body, from the left."""
    # What is still to be written waits on a list: bodies may lie deeper than calls of a function should.
    words = []
    waiting = [body]
    while waiting:
        thing = waiting.pop()
        if isinstance(thing, str):
            words.append(thing)
        else:
            waiting.extend(list(reversed(unfolded(thing))))
    return words


def unfolded(piece):
    """The words of a piece and the bodies right beneath it, in the text's order."""
    word = piece[0]
    if word == "give":
        return ["give", piece[1]]
    if word == "make" or word == "call":
        return ["let", piece[1], word, piece[2]] + list(piece[3]) + [";", piece[4]]
    if word == "name":
        return ["let", piece[1], "name", piece[2], ";", piece[3]]
    if word == "case":
        return unfolded_case(piece)
    return [word, str(piece[1]), ";", piece[2]]


def unfolded_case(piece):
    things = ["case", piece[1]]
    for number, arm in enumerate(piece[2]):
        if number > 0:
            things.append("|")
        things.append(arm[0])
        things.extend(arm[1])
        things.extend([":", arm[2]])
    things.append("end")
    return things
