"""The refusals, one class for each."""


class PurseError(ValueError):
    """Any refusal."""


class NoText(PurseError):
    """A text of no program: row is the number of the first row that is none."""

    def __init__(self, row):
        self.row = row


class NoProgram(PurseError):
    """A program that isn't sound: word says what is wrong with the name."""

    def __init__(self, word, name):
        self.word = word
        self.name = name


class NoValue(PurseError):
    """A text that writes no value of the asked kind."""


class NoPaper(PurseError):
    """A paper that isn't let by: row is the first one not kept, None where there are none to look at."""

    def __init__(self, row):
        self.row = row


class NoTurn(PurseError):
    """A turn that can't be done."""


class NoChain(PurseError):
    """Papers that don't meet: maker is the first one that is given less than is asked."""

    def __init__(self, maker):
        self.maker = maker


class NoRow(PurseError):
    """A row that the desk can't take."""
