"""The steps by which deeds change what the names of a house hold.

held is always a dict from each name to its holding. A step makes a new one.
"""

from equalunlike.carrying import carried_by_size
from equalunlike.errors import WrongKind
from equalunlike.evaluation import evaluated, words_of
from equalunlike.grammar import read_row
from equalunlike.holdings import Holding, Link, brought_in, carried_to, held_by
from equalunlike.operations import kind_of_row

# The kind that a name must have for a deed; the other deeds take both.
WANTED = {"add": "set", "put": "dict", "default": "dict"}


class NameStep:
    """A name gets a holding, or goes if the holding is None."""

    def __init__(self, name, holding):
        self.name = name
        self.holding = holding

    def done_to(self, held):
        """What is held behind the step."""
        return _with(held, self.name, self.holding)

    def way_back(self, held):
        """The step that takes this one back to what is held before it."""
        return NameStep(self.name, held.get(self.name))


class KeyStep:
    """A key of a set or dict gets a row, or goes if the row is None."""

    def __init__(self, name, key, row):
        self.name = name
        self.key = key
        self.row = row

    def done_to(self, held):
        """What is held behind the step."""
        holding = held[self.name]
        return _with(held, self.name, Holding(holding.kind, _with(holding.rows, self.key, self.row)))

    def way_back(self, held):
        """The step that takes this one back to what is held before it."""
        return KeyStep(self.name, self.key, held[self.name].rows.get(self.key))


def step_of(number, deed, held):
    """The step that the deed with this number does, if it can be done."""
    word = deed[0]
    if word == "assign":
        return _assignment(number, deed[1], held)
    name = deed[1]
    if word in ("set", "dict"):
        return NameStep(name, brought_in(word, deed[2], number, name))
    holding = held_by(name, held)
    if WANTED.get(word, holding.kind) != holding.kind:
        raise WrongKind(name)
    if word == "drop":
        return NameStep(name, None)
    if word == "discard":
        return KeyStep(name, deed[2], None)
    return _entrance(number, deed, holding.rows)


def _assignment(number, row, held):
    name, expression = read_row(row)
    words = words_of(expression)
    kind = kind_of_row(0, words, {own: holding.kind for own, holding in held.items()})
    rows = evaluated(words, {own: holding.rows for own, holding in held.items()}, carried_by_size)
    return NameStep(name, carried_to(kind, rows, number, name))


def _entrance(number, deed, rows):
    """The step of a deed that brings one element or entry."""
    word, name, (key, form), *rest = deed
    value = Link(rest[0], number, name) if rest else None
    row = (Link(form, number, name), value)
    if key in rows:
        row = (rows[key][0], value) if word == "put" else rows[key]
    return KeyStep(name, key, row)


def _with(table, key, item):
    """A dict with another item at a key, without the key if the item is None."""
    changed = dict(table)
    if item is None:
        changed.pop(key, None)
    else:
        changed[key] = item
    return changed
