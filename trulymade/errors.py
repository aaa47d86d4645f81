"""The errors of the whole program: MadeError and its kinds."""


class MadeError(ValueError):
    """What all kinds have in common: the value that was handed in."""

    def __init__(self, value):
        self.value = value


class BadName(MadeError):
    """What was handed in is no name, or not a name that fits here."""


class BadRow(MadeError):
    """What was handed in is no row."""


class BadThing(MadeError):
    """What was handed in is no thing."""


class BadForm(MadeError):
    """What was handed in is no form, or not the form that is wanted."""


class BadSign(MadeError):
    """What was handed in is no sign."""


class BadRule(MadeError):
    """What stands at this index is no rule; -1 if there is no row of rules."""


class BadText(MadeError):
    """The row of this index is not so written; -1 if there is no string."""


class BadParts(MadeError):
    """What stands at this key is no part of a maker; -1 if there is no dict."""


class BadOthers(MadeError):
    """What stands at this key is no twist of a maker; -1 if there is no dict."""


class BadCount(MadeError):
    """What was handed in is not a number that fits here."""


class BadBook(MadeError):
    """A book cannot have this: the word of the place and the index there."""


class BadFlag(MadeError):
    """What was handed in is no flag."""


class BadPlace(MadeError):
    """What was handed in is no index that fits here."""


class BadClaim(MadeError):
    """What was handed in is no claim of the book."""


class BadWorld(MadeError):
    """What was handed in is no world of the book."""


class BadKept(MadeError):
    """What was handed in is no row of notes that can be kept."""


class BadWord(MadeError):
    """What was handed in is not one of the words that fit here."""


class NoPaper(MadeError):
    """There is no paper, as the answer is this word."""


class BadPlanned(MadeError):
    """What stands at this index is no planned making; -1 if there is no row."""


class BadClaims(MadeError):
    """What stands at this index is no claim of both books; -1 if there is no row."""


class Clashes(MadeError):
    """What is kept clashes."""

    def __init__(self):
        MadeError.__init__(self, None)


class TooMany(MadeError):
    """There are, or would be, too many of something, or something too large."""

    def __init__(self):
        MadeError.__init__(self, None)


class TooLong(MadeError):
    """More signs would be written than a thing may write."""

    def __init__(self):
        MadeError.__init__(self, None)


class Finished(MadeError):
    """The machine is over: there is no further step."""

    def __init__(self):
        MadeError.__init__(self, None)


class NothingDone(MadeError):
    """Nothing is done that could be taken back."""

    def __init__(self):
        MadeError.__init__(self, None)
