"""The errors of the package. The fields of an error are its arguments."""


class BadElement(ValueError):
    """What was passed is no element, no entry, or no list or tuple of them."""

    def __init__(self, value):
        self.value = value


class BadKey(KeyError):
    """The set or dict does not have this as a key."""

    def __init__(self, value):
        self.value = value


class BadRow(ValueError):
    """The text at this place is no row, or no expression."""

    def __init__(self, place):
        self.place = place


class BadName(LookupError):
    """The row at this place uses a name that has no value there."""

    def __init__(self, place, name):
        self.place = place
        self.name = name


class BadKinds(TypeError):
    """The row at this place uses a set or a dict where it cannot stand."""

    def __init__(self, place):
        self.place = place


class TooMany(OverflowError):
    """There are more than the most that are allowed."""

    def __init__(self, most):
        self.most = most


class BadInputs(ValueError):
    """The inputs are not one to three different names."""


class BadOutput(LookupError):
    """This is not an output, or cannot be one."""

    def __init__(self, name):
        self.name = name


class BadContents(TypeError):
    """The input of this name has no contents of its kind, or there is no such input."""

    def __init__(self, name):
        self.name = name


class BadPattern(IndexError):
    """This is not a pattern of the program."""

    def __init__(self, value):
        self.value = value


class BadCounts(ValueError):
    """The counts are not valid for the program."""


class BadQuestion(ValueError):
    """The arguments are not a question."""


class Unlike(TypeError):
    """The two programs cannot be compared."""


class BadTable(ValueError):
    """The table is none for these inputs."""


class BadDeed(ValueError):
    """The items are not a deed, or the deeds are not a list of tuples."""


class NoName(KeyError):
    """The house does not have this name."""

    def __init__(self, name):
        self.name = name


class WrongKind(TypeError):
    """What has this name is a set where a dict is wanted, or a dict where a set is."""

    def __init__(self, name):
        self.name = name


class NothingToUndo(IndexError):
    """The house has no deed that could be taken back."""


class NotAssigned(LookupError):
    """The deed with this number is not an assignment."""

    def __init__(self, deed):
        self.deed = deed


class BadText(ValueError):
    """The row with this index is not the text of a deed."""

    def __init__(self, row):
        self.row = row


class NoRow(ValueError):
    """What was said to the desk is not a row that it knows."""
