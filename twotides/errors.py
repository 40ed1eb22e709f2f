"""The errors that the package raises; each keeps what it was made with."""


class TidesError(ValueError):
    """What all errors of the package are."""


class NoList(TidesError):
    """No list of thresholds."""

    def __init__(self):
        pass


class NoFraction(TidesError):
    """No fraction of the kind that is asked."""

    def __init__(self):
        pass


class NoNumber(TidesError):
    """No integer within the bounds that are told."""

    def __init__(self):
        pass


class NoWidth(TidesError):
    """No width of a vessel."""

    def __init__(self):
        pass


class BadWeb(TidesError):
    """No web: the part is "widths", "pipes" or the number of a pipe."""

    def __init__(self, part):
        self.part = part


class TooLarge(TidesError):
    """More of something than the most that is allowed."""

    def __init__(self, most):
        self.most = most


class BadBook(TidesError):
    """No book: the part is "sorts", "kinds" or the number of a kind."""

    def __init__(self, part):
        self.part = part


class NoSorts(TidesError):
    """No tuple with a sort for each vessel."""

    def __init__(self):
        pass


class NoFilling(TidesError):
    """No filling of the web."""

    def __init__(self):
        pass


class NoOpening(TidesError):
    """No opening of the web's pipes."""

    def __init__(self):
        pass


class TooMany(TidesError):
    """More cases than the most that are looked at."""

    def __init__(self, most):
        self.most = most


class NoSort(TidesError):
    """No sort of the book that is allowed here."""

    def __init__(self):
        pass


class NoBreach(TidesError):
    """No breach of the book."""

    def __init__(self):
        pass


class NotCalm(TidesError):
    """The book is not calm."""

    def __init__(self):
        pass


class NotOf(TidesError):
    """The web is not of the book with these sorts."""

    def __init__(self):
        pass


class NoMend(TidesError):
    """No mend of the book."""

    def __init__(self):
        pass


class NoPrices(TidesError):
    """No tuple of prices."""

    def __init__(self):
        pass


class NoPattern(TidesError):
    """No pattern of the web."""

    def __init__(self):
        pass


class NoRests(TidesError):
    """No rests of the web."""

    def __init__(self):
        pass


class UnlikeWidths(TidesError):
    """The widths are not all the same."""

    def __init__(self):
        pass


class NotOne(TidesError):
    """The web does not hang together, or has a sea."""

    def __init__(self):
        pass


class NotRest(TidesError):
    """The filling is no rest."""

    def __init__(self):
        pass


class NoSights(TidesError):
    """No sights: the index is that of the first wrong one, or -1."""

    def __init__(self, index):
        self.index = index


class NotRingless(TidesError):
    """The web has a ring, or a part with two seas."""

    def __init__(self):
        pass


class BadAnswer(TidesError):
    """A valve's answer to these levels is no integer."""

    def __init__(self, one, other):
        self.one = one
        self.other = other


class BadOpening(TidesError):
    """A stranger tells no opening of this filling."""

    def __init__(self, filling):
        self.filling = filling


class BadText(TidesError):
    """The line with this number is not written as it should be."""

    def __init__(self, line):
        self.line = line


class NoLine(TidesError):
    """No line that the desk knows."""

    def __init__(self):
        pass


class NoName(TidesError):
    """Nothing is kept under this name."""

    def __init__(self, name):
        self.name = name


class NothingDone(TidesError):
    """No line is left that can be taken back."""

    def __init__(self):
        pass
