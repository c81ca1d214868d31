"""Looks up kinds and makers. Kinds are those of a program, a tuple of (name, makers)."""


def makers_of(kinds, kind):
    """The kind's makers with their fields; a kind that isn't there has none."""
    for name, makers in kinds:
        if name == kind:
            return makers
    return ()


def within(kinds, kind):
    """The names of the makers of all kinds that can be come to from the kind by fields, itself one."""
    reached = reached_kinds(kinds, kind)
    names = []
    for name, makers in kinds:
        if name in reached:
            names.extend([maker[0] for maker in makers])
    return tuple(names)


def reached_kinds(kinds, kind):
    """A dict whose keys are the kinds that can be come to."""
    reached = {kind: True}
    waiting = [kind]
    while waiting:
        here = waiting.pop()
        for maker in makers_of(kinds, here):
            for field in maker[1]:
                if field not in reached:
                    reached[field] = True
                    waiting.append(field)
    return reached


def kind_of_maker(kinds, maker):
    """The name of the kind that the maker belongs to."""
    for name, makers in kinds:
        if maker in [one[0] for one in makers]:
            return name
    return None
