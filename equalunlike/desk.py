"""A desk: a house that is told and asked everything in rows of text."""

from equalunlike.deeds import deed_in, things_in
from equalunlike.errors import NoRow
from equalunlike.house import House
from equalunlike.operations import kind_of

# The parts of each row that is no deed, behind its word.
PARTS = {
    "undo": (),
    "show": ("name",),
    "trace": ("name", "key"),
    "valuetrace": ("name", "key"),
    "history": (),
    "names": (),
    "same": ("name", "name"),
}
EMPTY = "empty"


class Desk:
    """Answers rows about a house of its own."""

    def __init__(self):
        self.house = House()

    def say(self, row):
        """The answer to a row, which may be any value."""
        deed = deed_in(row)
        if deed is not None:
            self.house.do(*deed)
            return "ok"
        words = row.split(" ") if isinstance(row, str) else [""]
        word = words[0]
        things = things_in(PARTS[word], words[1:]) if word in PARTS else None
        if things is None:
            raise NoRow()
        return _answer(self.house, word, things)


def _answer(house, word, things):
    """The answer to a row that is no deed, given by its word and its parts."""
    if word == "undo":
        return house.undo()[0]
    if word == "show":
        return str(house.content(things[0]))
    if word == "trace":
        return _pairs_text(house.trace(*things))
    if word == "valuetrace":
        return _pairs_text(house.value_trace(*things))
    if word == "history":
        return str(house).replace("\n", " ; ") or EMPTY
    if word == "names":
        return " ".join(house.names) or EMPTY
    return _likeness(house.content(things[0]), house.content(things[1]))


def _pairs_text(trace):
    return " ".join([f"{deed}:{name}" for deed, name in trace])


def _likeness(one, other):
    """How like each other two form sets or form dicts are."""
    if one == other:
        return "yes"
    if kind_of(one) == kind_of(other) and one.equals(other):
        return "equal"
    return "no"
