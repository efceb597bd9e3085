"""The refusals of the language, each kind a class of its own."""


class DealError(ValueError):
    """What a refusal stands under that has no other place."""


class NoSpan(DealError):
    """What was handed in is no span."""


class NoRest(DealError):
    """What was handed in is no rest."""


class NoAgreement(DealError):
    """What was handed in is no agreement: place is what is wrong first."""

    def __init__(self, place):
        super().__init__(f"no agreement: {place}")
        self.place = place


class NoText(DealError):
    """What was handed in is no text of the language: row is the first wrong one."""

    def __init__(self, row):
        super().__init__(f"no text: row {row}")
        self.row = row


class NoLetters(DealError):
    """What was handed in is no list of letters."""


class NoLetter(DealError):
    """What was handed in is no letter that can be posted."""


class NoCondition(DealError):
    """What was handed in is no condition."""


class NoHappening(DealError):
    """What was handed in is no happening, or none that happened."""


class NoVersions(DealError):
    """What was handed in is no list of versions."""


class NoOpen(DealError):
    """What was handed in is no list of letters in dispute."""


class Open(DealError):
    """Some letter is in dispute, so that no one State can be told."""


class Withdrawn(DealError):
    """The letter of this said and turn was withdrawn."""

    def __init__(self, said, turn):
        super().__init__(f"withdrawn: {said}, {turn}")
        self.said = said
        self.turn = turn


class NoDeed(DealError):
    """What was handed in is no deed."""


class HasCoins(DealError):
    """The agreement has words with coins, where none may be."""


class OtherParties(DealError):
    """Two agreements have other parties, or have them in another order."""


class TooWide(DealError):
    """What was handed in is too wide to be looked through."""


class NoLetterThere(KeyError):
    """There is no letter of this said and turn."""

    def __init__(self, said, turn):
        super().__init__(f"no letter there: {said}, {turn}")
        self.said = said
        self.turn = turn


class NoClause(KeyError):
    """There is nothing of this name."""

    def __init__(self, name):
        super().__init__(f"nothing of this name: {name}")
        self.name = name


class NoDay(IndexError):
    """What was handed in is no day, or no day that fits."""


class NothingDone(LookupError):
    """There is no deed to take back, or to do again."""


class Twice(RuntimeError):
    """A letter of this said and turn was posted already."""

    def __init__(self, said, turn):
        super().__init__(f"posted already: {said}, {turn}")
        self.said = said
        self.turn = turn
