"""The refusals of the program, one class for each kind."""


class CardError(ValueError):
    pass


class NoPack(CardError):
    pass


class TooMany(CardError):
    pass


class NoSaying(CardError):
    pass


class NoHand(CardError):
    pass


class NoRow(CardError):
    pass
