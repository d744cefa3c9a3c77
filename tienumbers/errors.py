"""Refusals: one class for each, all straight under TieError.

What an error is made with is handed on to the base as it is, so that an error can be copied.
"""


class TieError(ValueError):
    pass


class NoPlace(TieError):
    pass


class NoKind(TieError):
    pass


class NoSquare(TieError):
    pass


class NoNumber(TieError):
    pass


class NoRow(TieError):
    pass


class NoWeb(TieError):
    def __init__(self, number):
        TieError.__init__(self, number)
        self.number = number


class NoShare(TieError):
    def __init__(self, number):
        TieError.__init__(self, number)
        self.number = number


class NoText(TieError):
    def __init__(self, row):
        TieError.__init__(self, row)
        self.row = row


class TooGreat(TieError):
    def __init__(self, many, most):
        TieError.__init__(self, many, most)
        self.many = many
        self.most = most
