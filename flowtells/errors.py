"""All errors of the package; each keeps its fields in attributes of their names."""


class NetError(ValueError):
    """The base of all errors of the package."""


class BadNumber(NetError):
    """What should be a number, or a list of numbers or points, is none."""

    def __init__(self, part):
        self.part = part


class BadWeb(NetError):
    """What should be a web is none."""

    def __init__(self, part):
        self.part = part


class BadTable(NetError):
    """What should be a table is none."""

    def __init__(self, part):
        self.part = part


class BadLot(NetError):
    """What should be a lot is none."""

    def __init__(self, part):
        self.part = part


class Misfit(NetError):
    """Right values that do not fit together."""

    def __init__(self, part):
        self.part = part


class Missing(NetError):
    """A value that is none here."""

    def __init__(self, value):
        self.value = value


class NoPlace(Missing):
    """A value that is no place of the web."""

    def __init__(self, value):
        super().__init__(value)


class NoTie(Missing):
    """A value that is no tie of the web."""

    def __init__(self, value):
        super().__init__(value)


class Twice(NetError):
    """A value that stands twice."""

    def __init__(self, value):
        self.value = value


class TooMany(NetError):
    """There are more of something than the most that can be."""

    def __init__(self, what, most):
        self.what = what
        self.most = most


class BadText(NetError):
    """A text that cannot be read, and the item that cannot stand."""

    def __init__(self, line, item):
        self.line = line
        self.item = item
