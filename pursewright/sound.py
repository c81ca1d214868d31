"""Looks a program through from its begin and refuses the first thing that isn't as it should be."""

from pursewright.errors import NoProgram


def look(program):
    """True of a sound program; else NoProgram of the first fault."""
    kinds = {}
    for kind, makers in program[0]:
        bind(kinds, kind, makers)
    known = Known(kinds, look_makers(kinds, program[0]), look_functions(program[1]))
    for function in program[1]:
        look_function(known, function)
    return True


class Known:
    """What a program tells of its names: makers and functions to (kinds due, kind made), kinds to makers."""

    def __init__(self, kinds, makers, functions):
        self.kinds = kinds
        self.makers = makers
        self.functions = functions


def need(known, name):
    if name not in known:
        raise NoProgram("unknown", name)


def bind(bound, name, what):
    if name in bound:
        raise NoProgram("twice", name)
    bound[name] = what


def look_makers(kinds, rows):
    """The makers of all kinds, each with its fields and its kind."""
    makers = {}
    for kind, own in rows:
        for maker, fields in own:
            bind(makers, maker, (fields, kind))
            for field in fields:
                need(kinds, field)
    return makers


def look_functions(rows):
    """All functions, each with its params' kinds and the kind that it gives, there or not."""
    functions = {}
    for function in rows:
        due = tuple([kind for name, kind in function[1]])
        bind(functions, function[0], (due, function[2]))
    return functions


def look_function(known, function):
    bound = {}
    for name, kind in function[1]:
        bind(bound, name, kind)
        need(known.kinds, kind)
    need(known.kinds, function[2])
    look_body(known, function, bound)


def look_body(known, function, params):
    """The pieces of a function's body, in the text's order."""
    # The body is begun like an arm without names. Arms wait on a list, the next one last, so that each head
    # is looked at behind all that the arms ahead of it hold, however deep bodies lie.
    waiting = [(("", (), function[3]), (), params)]
    while waiting:
        begun = waiting.pop()
        arm = begun[0]
        bound = look_head(arm, begun[1], begun[2])
        piece = arm[2]
        while piece[0] != "give" and piece[0] != "case":
            look_piece(known, piece, bound)
            piece = piece[-1]
        need(bound, piece[1])
        if piece[0] == "give":
            need_kind(bound, piece[1], function[2])
        else:
            arms = look_arms(known, piece, bound)
            waiting.extend(list(reversed(arms)))


def look_head(arm, fields, above):
    """All names that are bound where the arm's body begins."""
    if len(arm[1]) != len(fields):
        raise NoProgram("count", arm[0])
    bound = dict(above)
    for name, kind in zip(arm[1], fields):
        bind(bound, name, kind)
    return bound


def look_piece(known, piece, bound):
    """A piece with one body behind it; the name that it binds is put to the bound ones."""
    word = piece[0]
    if word == "make":
        look_use(known.makers, piece, bound)
    elif word == "call":
        look_use(known.functions, piece, bound)
    elif word == "name":
        need(bound, piece[2])
        bind(bound, piece[1], bound[piece[2]])


def look_use(makings, piece, bound):
    """A make or a call."""
    names = piece[3]
    for name in names:
        need(bound, name)
    need(makings, piece[2])
    due = makings[piece[2]][0]
    if len(names) != len(due):
        raise NoProgram("count", piece[2])
    for name, kind in zip(names, due):
        need_kind(bound, name, kind)
    bind(bound, piece[1], makings[piece[2]][1])


def need_kind(bound, name, kind):
    if bound[name] != kind:
        raise NoProgram("kind", name)


def look_arms(known, piece, bound):
    """The arms of a case, each with its maker's fields and the names bound above it."""
    # A later function may give a kind that isn't there: it has no makers, so no arms are right.
    makers = known.kinds.get(bound[piece[1]], ())
    if [arm[0] for arm in piece[2]] != [maker[0] for maker in makers]:
        raise NoProgram("arms", piece[1])
    return [(arm, maker[1], bound) for arm, maker in zip(piece[2], makers)]
