"""The refusals: one class for each, all of them under HallError."""


class HallError(ValueError):
    pass


class NoNumber(HallError):
    pass


class NoBundle(HallError):
    pass


class NoBid(HallError):
    pass


class NoText(HallError):
    pass


class NoRow(HallError):
    pass


class BadStep(HallError):
    pass


class TooLate(HallError):
    pass


class NoName(HallError):
    # The words leave the name out: it may be anything, and need not be fit to be shown.
    def __init__(self, name):
        HallError.__init__(self, "this is not a name that can be taken here")
        self.name = name


class NoPaper(HallError):
    # The plan is copied, so that a later change of the maker's list does not reach the asker's.
    def __init__(self, plan):
        HallError.__init__(self, "there is a plan that comes to more")
        self.plan = list(plan)


class TooMany(HallError):
    def __init__(self, number):
        HallError.__init__(self, "there are more than can be taken here")
        self.number = number
