"""The refusals: each has a class of its own, straight under HallError."""


class HallError(ValueError):
    pass


class BadSign(HallError):
    def __init__(self, spot):
        HallError.__init__(self, f"no text of words, from the sign at {spot} on")
        self.spot = spot


class BadText(HallError):
    def __init__(self, spot):
        HallError.__init__(self, f"no hall's text, from the word at {spot} on")
        self.spot = spot


class BadName(HallError):
    def __init__(self, word):
        HallError.__init__(self, f"a wrong name: {word}")
        self.word = word


class BadNumber(HallError):
    def __init__(self, word):
        HallError.__init__(self, f"a number beyond its bounds at the station {word}")
        self.word = word


class BadRing(HallError):
    def __init__(self, word):
        HallError.__init__(self, f"a ring of stations that take no time, with {word} on it")
        self.word = word


class BadLoan(HallError):
    def __init__(self, word):
        HallError.__init__(self, f"things lent do not come back at the station {word}")
        self.word = word


class TooMany(HallError):
    pass


class NoDoor(HallError):
    pass


class BadChange(HallError):
    pass


class BadKept(HallError):
    pass
