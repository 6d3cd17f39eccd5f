"""The errors of the package, each with what it tells as fields."""


class ClearError(ValueError):
    """What all errors of the package are, but for NoGroup."""


class BadMode(ClearError):
    """The value is no mode."""

    def __init__(self, value):
        self.value = value


class BadRule(ClearError):
    """What was to be a rule is none; number and word tell where and why."""

    def __init__(self, number, word):
        self.number = number
        self.word = word


class BadText(ClearError):
    """The text cannot be read; place tells from where on."""

    def __init__(self, place):
        self.place = place


class BadWay(ClearError):
    """What was to be a way is none; number and word tell where and why."""

    def __init__(self, number, word):
        self.number = number
        self.word = word


class Full(ClearError):
    """As many edits are in effect as there may be."""


class NothingToUndo(ClearError):
    """No edit is in effect."""


class NotKept(ClearError):
    """The way does not keep the rule; broken tells which part of it."""

    def __init__(self, broken):
        self.broken = broken


class TooMany(ClearError):
    """Something would be more than the limit."""

    def __init__(self, limit):
        self.limit = limit


class NoGroup(LookupError):
    """The group does not stand where it is looked for."""

    def __init__(self, group):
        self.group = group
