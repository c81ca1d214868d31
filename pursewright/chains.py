"""Functions chained, and functions over each thing of a list."""

from pursewright.names import new_names


def chained(program, f, g, name):
    """The program with a function more, of this name, that calls function f, and function g with what f gives."""
    first = program[1][f]
    second = program[1][g]
    params = tuple([param for param, kind in first[1]])
    names = new_names(params, 2)
    last = ("call", names[1], second[0], (names[0],), ("give", names[1]))
    body = ("call", names[0], first[0], params, last)
    return (program[0], program[1] + ((name, first[1], second[2], body),))


def over(program, f, names):
    """The program with two kinds of lists more and a function that calls function f with each thing of one.

    Names: kind, maker without fields, maker, of what is taken; the same of what is given; the function's.
    """
    function = program[1][f]
    taken = list_kind(names[0], names[1], names[2], function[1][0][1])
    given = list_kind(names[3], names[4], names[5], function[2])
    empty = ("make", "y", names[4], (), ("give", "y"))
    both = ("make", "y", names[5], ("c", "d"), ("give", "y"))
    calls = ("call", "c", function[0], ("a",), ("call", "d", names[6], ("b",), both))
    body = ("case", "x", ((names[1], (), empty), (names[2], ("a", "b"), calls)))
    return (program[0] + (taken, given), program[1] + ((names[6], (("x", names[0]),), names[3], body),))


def list_kind(kind, empty, more, thing):
    """A kind of lists of things of this kind."""
    return (kind, ((empty, ()), (more, (thing, kind))))
