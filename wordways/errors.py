"""The errors that the program raises, one class for each kind of refusal."""


class NoPlace(KeyError):
    """A place is not there."""


class NoTie(KeyError):
    """A tie is not there."""


class NoName(ValueError):
    """A text is no name."""


class Tied(RuntimeError):
    """A place cannot be dropped, as ties are at it."""


class NoMark(LookupError):
    """A mark is not there."""


class NoText(ValueError):
    """A text is not written as it must be."""


class NotFormed(ValueError):
    """A word, or what a text tells, is not formed as it must be."""


class NoWay(LookupError):
    """A number or a way is not one of the many that there are."""

    def __init__(self, many):
        LookupError.__init__(self, f"not one of the {many} ways")
        self.many = many


class NoAsk(KeyError):
    """A question is not kept."""


class NoKind(ValueError):
    """A text is no kind of question."""


class Full(LookupError):
    """There are as many as there may be."""

    def __init__(self, most):
        LookupError.__init__(self, f"at most {most} may be there")
        self.most = most


class NotDone(RuntimeError):
    """A row of deeds was undone, as one of them was refused."""

    def __init__(self, at):
        RuntimeError.__init__(self, f"deed {at} was refused")
        self.at = at
