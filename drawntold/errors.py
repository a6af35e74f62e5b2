"""All errors that the package raises on purpose."""


class DrawError(ValueError):
    """What all errors of the package are."""


class InvalidFraction(DrawError):
    """A value is no fraction, or a call asks for another one."""


class InvalidColumns(DrawError):
    """A value is no columns."""


class InvalidCount(DrawError):
    """A number that is asked for is no integer, too low or too high."""


class InvalidPart(DrawError):
    """A value is no part of what the call is about."""


class Refused(DrawError):
    """A call has nothing that it could do."""


class InvalidTable(DrawError):
    """A value is no table; index tells where."""

    def __init__(self, index):
        DrawError.__init__(self, "not a table; see the index that the error keeps")
        self.index = index


class InvalidTelling(DrawError):
    """A value is no telling; place tells where."""

    def __init__(self, place):
        DrawError.__init__(self, "not a telling; see the place that the error keeps")
        self.place = place


class InvalidPicture(DrawError):
    """A value is no picture; place tells where."""

    def __init__(self, place):
        DrawError.__init__(self, "not a picture; see the place that the error keeps")
        self.place = place


class InvalidText(DrawError):
    """A value is no text of the form; index is that of the first wrong sign."""

    def __init__(self, index):
        DrawError.__init__(self, "not such a text; see the index that the error keeps")
        self.index = index


class InvalidCommand(DrawError):
    """A value is no command; index is that of the first wrong sign."""

    def __init__(self, index):
        DrawError.__init__(self, "not a command; see the index that the error keeps")
        self.index = index


class TooMany(DrawError):
    """There would be more than count."""

    def __init__(self, count):
        DrawError.__init__(self, "too many; see the count that the error keeps")
        self.count = count


class Unknown(DrawError):
    """A word names nothing."""

    def __init__(self, word):
        DrawError.__init__(self, "unknown; see the word that the error keeps")
        self.word = word


class Twice(DrawError):
    """A word names a second thing."""

    def __init__(self, word):
        DrawError.__init__(self, "twice; see the word that the error keeps")
        self.word = word
