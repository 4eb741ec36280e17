"""The refusals of the program, one class for each."""


class OathError(ValueError):
    pass


class NoLand(OathError):
    pass


class NoOath(OathError):
    def __init__(self, number):
        OathError.__init__(self, f"oath {number} is none")
        self.number = number


class NoText(OathError):
    pass


class NoRow(OathError):
    pass


class NoDeed(OathError):
    pass


class TooMany(OathError):
    pass
