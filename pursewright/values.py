"""Values: tuples (maker, parts), parts a tuple of values."""

from pursewright.kinds import makers_of


def is_value(kinds, kind, thing):
    """Whether the thing is a value of the kind."""
    # Here and below parts wait on a list: values may lie deeper than calls of a function should.
    waiting = [(kind, thing)]
    while waiting:
        due = waiting.pop()
        fields = fields_due(kinds, due[0], due[1])
        if fields is None:
            return False
        waiting.extend(list(zip(fields, due[1][1])))
    return True


def fields_due(kinds, kind, thing):
    """The kinds that the thing's parts are to be of, None where no maker of the kind has made it."""
    if not isinstance(thing, tuple) or len(thing) != 2 or not isinstance(thing[1], tuple):
        return None
    for maker, fields in makers_of(kinds, kind):
        if maker == thing[0] and len(fields) == len(thing[1]):
            return fields
    return None


def makers_in(value):
    """The makers that stand in the value, each as often as it stands there, a thing's ahead of its parts'."""
    makers = []
    waiting = [value]
    while waiting:
        thing = waiting.pop()
        makers.append(thing[0])
        waiting.extend(list(reversed(thing[1])))
    return makers


def size(value):
    """How many makers stand in the value."""
    return len(makers_in(value))


def depth(value):
    """How many makers lie within one another in the value."""
    deep = 0
    layer = [value]
    while layer:
        deep += 1
        beneath = []
        for thing in layer:
            beneath.extend(thing[1])
        layer = beneath
    return deep


def counts(value):
    """A dict from each maker that stands in the value to how often it does."""
    often = {}
    for maker in makers_in(value):
        often[maker] = often.get(maker, 0) + 1
    return often


def key(kinds, value):
    """A list of whole numbers by which values of one kind are in order."""
    # How many parts a maker has is fixed, so lists of unlike values part at the first maker that is another.
    numbers = {}
    for name, makers in kinds:
        numbers.update([(maker[0], number) for number, maker in enumerate(makers)])
    return [numbers[maker] for maker in makers_in(value)]
