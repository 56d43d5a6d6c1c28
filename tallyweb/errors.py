"""The refusals: each an error class of its own, straight under TallyError."""


class TallyError(ValueError):
    pass


class BadWeb(TallyError):
    pass


class BadTally(TallyError):
    pass


class NoPlace(TallyError):
    pass


class BadNumber(TallyError):
    pass


class NoWeb(TallyError):
    pass


class NoExchange(TallyError):
    pass


class Unlike(TallyError):
    pass


class TooMany(TallyError):
    pass


class NoText(TallyError):
    pass
