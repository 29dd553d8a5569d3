"""The errors of the package. Each keeps the very value it is about."""


class LeadError(ValueError):
    """What all errors of the package derive from."""


class BadRule(LeadError):
    """A value that is not a rule, or not the rule that is asked for."""

    def __init__(self, value):
        self.value = value


class BadTable(LeadError):
    """Rules that make no table, or a value that is not a table."""

    def __init__(self, value):
        self.value = value


class BadDay(LeadError):
    """A value that is not a day, or not a day that fits."""

    def __init__(self, value):
        self.value = value


class BadPlace(LeadError):
    """A value that is not a place, or a place where nothing is."""

    def __init__(self, value):
        self.value = value


class BadName(LeadError):
    """A value that is not a name, or names that do not fit together."""

    def __init__(self, value):
        self.value = value


class UnknownName(LeadError):
    """A value that is not one of the names asked for."""

    def __init__(self, name):
        self.name = name


class TakenName(LeadError):
    """A name that has been given before."""

    def __init__(self, name):
        self.name = name


class TakenPlace(LeadError):
    """A place where another one of the same sort stands."""

    def __init__(self, place):
        self.place = place


class NotStanding(LeadError):
    """The name of something that stands no more."""

    def __init__(self, name):
        self.name = name


class Standing(LeadError):
    """The name of something that stands already."""

    def __init__(self, name):
        self.name = name


class BadText(LeadError):
    """A value that is not the text of anything asked for."""

    def __init__(self, value):
        self.value = value


class BadCommand(LeadError):
    """A value that is not a command."""

    def __init__(self, command):
        self.command = command


class NotSafe(LeadError):
    """A site is not safe: the way is a wrong way."""

    def __init__(self, way):
        self.way = way
