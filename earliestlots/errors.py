"""The errors of the package: classes straight under DateError ([0.10])."""


class DateError(ValueError):
    """Every error of the package is one of these."""


class BadStanding(DateError):
    """These ranks are no standing; -1 stands for the whole argument."""

    def __init__(self, index):
        self.index = index


class BadPlaces(DateError):
    """These are no unlike places of the standing; -1 stands for the whole argument."""

    def __init__(self, index):
        self.index = index


class BadLayers(DateError):
    """These are no layers of a standing; -1 stands for the whole argument."""

    def __init__(self, index):
        self.index = index


class BadCount(DateError):
    """The argument of this name is no number within its bounds."""

    def __init__(self, what):
        self.what = what


class BadNumber(DateError):
    """This is not the number of one of the things that are counted."""


class BadDates(DateError):
    """These are not dates as asked for; -1 stands for the whole argument."""

    def __init__(self, index):
        self.index = index


class BadLot(DateError):
    """This is no lot of what is there; -1 stands for the whole argument."""

    def __init__(self, index):
        self.index = index


class BadText(DateError):
    """The text does not fit at this word or row; -1 stands for the whole text."""

    def __init__(self, place):
        self.place = place


class BadRelation(DateError):
    """The argument of this name makes no relation."""

    def __init__(self, what):
        self.what = what


class OtherPlaces(DateError):
    """Things that must have the same places have others."""


class TooMany(DateError):
    """There are more than this many, and no more are taken."""

    def __init__(self, most):
        self.most = most


class BadParts(DateError):
    """These are no parts of a definition; -1 stands for the whole argument."""

    def __init__(self, index):
        self.index = index


class BadLining(DateError):
    """This is no lining of the two standings; -1 stands for the whole argument."""

    def __init__(self, index):
        self.index = index


class BadDeed(DateError):
    """This is none of the three deeds."""


class BadCut(DateError):
    """The cut is no number from 0 to the number of ranks."""


class NoLot(DateError):
    """The lot of this index cannot be taken; -1 stands for the whole argument."""

    def __init__(self, index):
        self.index = index


class BadClosing(DateError):
    """This is none of the three closings."""


class BadStray(DateError):
    """The stray has the fault that this word names."""

    def __init__(self, what):
        self.what = what


class BadSpoilt(DateError):
    """The spoilt lots have the fault that this word names."""

    def __init__(self, what):
        self.what = what


class BadBook(DateError):
    """The fact of this index makes no book; -1 stands for the whole book."""

    def __init__(self, index, what):
        self.index = index
        self.what = what


class NoFact(DateError):
    """No fact has this number."""

    def __init__(self, number):
        self.number = number


class NotFitting(DateError):
    """The lot does not fit the fact of this number."""

    def __init__(self, fact):
        self.fact = fact


class NoDate(DateError):
    """This is none of the dates."""

    def __init__(self, date):
        self.date = date


class NoWay(DateError):
    """No deed keeps the book, or not the one that was asked for."""


class NotStuck(DateError):
    """Nothing is stuck, so no paper shows it."""


class NotOver(DateError):
    """The fact of this number, made equal, cannot be taken over."""

    def __init__(self, fact):
        self.fact = fact


class BadClause(DateError):
    """The argument of this name makes no clause."""

    def __init__(self, what):
        self.what = what


class BadPlace(DateError):
    """This is no place of the standing."""


class NotBroken(DateError):
    """The clause of this index is not broken by the heights."""

    def __init__(self, index):
        self.index = index


class NotLesser(DateError):
    """The fact of this number, made equal, is not kept by lesser."""

    def __init__(self, fact):
        self.fact = fact


class NotFit(DateError):
    """The numbers or the dating do not fit the book."""


class BadNumbers(DateError):
    """This is no numbering of the book; -1 stands for the whole argument."""

    def __init__(self, index):
        self.index = index


class BadMoment(DateError):
    """This is no moment."""


class BadWorks(DateError):
    """The work of this index has no wait; -1 stands for the whole argument."""

    def __init__(self, index):
        self.index = index


class BadRule(DateError):
    """The argument of this name makes no rule."""

    def __init__(self, what):
        self.what = what


class BadRules(DateError):
    """The rule of this index does not fit; -1 stands for the whole argument."""

    def __init__(self, index, what):
        self.index = index
        self.what = what


class NotAFact(DateError):
    """The rule of this number has no dates, or too many for a fact."""

    def __init__(self, number):
        self.number = number


class NotRuledFact(DateError):
    """The relation of the fact of this number, made equal, is not ruled."""

    def __init__(self, fact):
        self.fact = fact


class BadPool(DateError):
    """The entry of this index is no fact for the pool; -1 stands for the whole pool."""

    def __init__(self, index):
        self.index = index


class BadWish(DateError):
    """The entry of this index is no wish; -1 stands for the whole argument."""

    def __init__(self, index):
        self.index = index


class BadEdit(DateError):
    """The edit of this index cannot be done; -1 stands for the whole argument."""

    def __init__(self, index):
        self.index = index


class NothingDone(DateError):
    """So many edits do not stand, so they cannot be taken back."""
