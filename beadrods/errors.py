"""The refusals of the program."""


# Every refusal stands straight under this one, so that a caller can take them all, or one alone.
class BeadError(ValueError):
    pass


class NoManner(BeadError):
    pass


class NoSetting(BeadError):
    pass


class NoNumber(BeadError):
    pass


class NoMove(BeadError):
    pass


class TooGreat(BeadError):
    pass


class Nothing(BeadError):
    pass


class NoText(BeadError):
    pass


class NoName(BeadError):
    pass
