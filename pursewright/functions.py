"""Looks up functions. Functions are those of a program, a tuple of (name, params, kind, body)."""


def number_of(functions, name):
    """The number of the function with this name, None where there is none."""
    for number, function in enumerate(functions):
        if function[0] == name:
            return number
    return None
