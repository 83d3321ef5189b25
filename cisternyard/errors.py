"""The refusals of the program."""


class YardError(ValueError):
    pass


class BadYard(YardError):
    pass


class BadDays(YardError):
    pass


class BadLine(YardError):
    pass


class BadText(YardError):
    pass
