"""The refusals of the program."""


class SparseError(ValueError):
    pass


class NoNumber(SparseError):
    pass


class NoForm(SparseError):
    pass


class NoText(SparseError):
    pass


class NoStep(SparseError):
    pass


class TooLittle(SparseError):
    pass
