"""The refusals: one class for each, all of them under SlateError and none under another."""


class SlateError(ValueError):
    pass


class BadPlace(SlateError):
    pass


class BadFormula(SlateError):
    def __init__(self, text, at=0):
        SlateError.__init__(self, text)
        self.at = at


class TooGreat(SlateError):
    pass


class NoRing(SlateError):
    pass


class BadSize(SlateError):
    pass


class Outside(SlateError):
    pass


class BadSpan(SlateError):
    pass


class BadRow(SlateError):
    pass
