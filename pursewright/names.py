"""The names that functions bind, and new ones."""

from pursewright.places import pieces
from pursewright.words import LETTERS, is_name


def bound_in(function):
    """A dict of all names that are bound in the function, params among them."""
    told = dict([(name, True) for name, kind in function[1]])
    for piece in pieces(function[3]):
        told.update([(name, True) for name in bound_at(piece)])
    return told


def bound_at(piece):
    """A list of the names that the piece binds, of a case in all arms."""
    if piece[0] == "make" or piece[0] == "call" or piece[0] == "name":
        return [piece[1]]
    told = []
    if piece[0] == "case":
        for arm in piece[2]:
            told.extend(arm[1])
    return told


def new_names(taken, many):
    """A list of so many names, none of them among those taken."""
    told = []
    number = 0
    while len(told) < many:
        name = letters_of(number)
        if is_name(name) and name not in taken:
            told.append(name)
        number += 1
    return told


def letters_of(number):
    """The text of this number, from 0, where those of fewer letters come first."""
    text = ""
    left = number + 1
    while left > 0:
        text = LETTERS[(left - 1) % len(LETTERS)] + text
        left = (left - 1) // len(LETTERS)
    return text


def renamed(piece, called):
    """The piece with its own names called otherwise, by a dict of old ones to new ones; its bodies stay."""
    word = piece[0]
    if word == "make" or word == "call":
        return (word, called.get(piece[1], piece[1]), piece[2], all_renamed(piece[3], called), piece[4])
    if word == "pay" or word == "get":
        return piece
    first = (word, called.get(piece[1], piece[1]))
    if word == "name":
        return first + (called.get(piece[2], piece[2]), piece[3])
    if word == "case":
        return first + (tuple([(arm[0], all_renamed(arm[1], called), arm[2]) for arm in piece[2]]),)
    return first


def all_renamed(names, called):
    return tuple([called.get(name, name) for name in names])
