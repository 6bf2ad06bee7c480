"""A house of named form sets and form dicts, in which each element can be traced to its deed."""

from equalunlike.basics import is_name
from equalunlike.deeds import deed_of
from equalunlike.errors import BadDeed, NotAssigned, NothingToUndo, WrongKind
from equalunlike.evaluation import words_of
from equalunlike.grammar import read_row
from equalunlike.histories import history_text
from equalunlike.holdings import held_by
from equalunlike.programs import Program
from equalunlike.steps import step_of


class Record:
    """A deed that was done, the step that takes it back, and the record of the deed before."""

    def __init__(self, number, deed, step_back, earlier):
        self.number = number
        self.deed = deed
        self.step_back = step_back
        self.earlier = earlier


class Trial:
    """For one with statement: if an error leaves it, the house is as it was when the trial was made."""

    def __init__(self, house):
        self.house = house
        # Neither is ever changed, a deed puts another one in its place; so nothing needs to be copied.
        self.held = house._held
        self.last = house._last

    def __enter__(self):
        return self

    def __exit__(self, kind, value, trace):
        house = self.house
        if kind is not None:
            house._held = self.held
            house._last = self.last


class House:
    """Named form sets and form dicts, with the history of the deeds that made them."""

    def __init__(self):
        # A dict from each name to its holding, and the record of the last deed.
        self._held = {}
        self._last = None

    def do(self, *deed):
        """Does a deed, given by its items, and returns its number."""
        done = deed_of(deed)
        number = 0 if self._last is None else self._last.number + 1
        step = step_of(number, done, self._held)
        step_back = step.way_back(self._held)
        self._held = step.done_to(self._held)
        self._last = Record(number, done, step_back, self._last)
        return number

    def undo(self):
        """Takes back the last deed and returns it."""
        last = self._last
        if last is None:
            raise NothingToUndo()
        self._held = last.step_back.done_to(self._held)
        self._last = last.earlier
        return last.deed

    def content(self, name):
        """The form set or form dict of this name."""
        return held_by(name, self._held).content()

    @property
    def names(self):
        """The tuple of all names, ascending."""
        return tuple(sorted(self._held))

    def trace(self, name, key):
        """The list of the pairs (deed, name) by which the element with this key came here."""
        form, _ = held_by(name, self._held).row_at(key)
        return form.pairs()

    def value_trace(self, name, key):
        """The list of the pairs (deed, name) by which the value at this key of a dict came here."""
        holding = held_by(name, self._held)
        if holding.kind != "dict":
            raise WrongKind(name)
        _, value = holding.row_at(key)
        return value.pairs()

    def history(self):
        """The list of the deeds."""
        deeds = []
        record = self._last
        while record is not None:
            deeds.append(record.deed)
            record = record.earlier
        return deeds[::-1]

    def twin(self):
        """An equal house with the same history, which goes its own way."""
        house = House()
        house._held = self._held
        house._last = self._last
        return house

    def trial(self):
        """An object for one with statement; if an error leaves that, the house is as it is now."""
        return Trial(self)

    def tried(self, function):
        """What the function returns for the house; if an error leaves the function, the house is as before."""
        with Trial(self):
            told = function(self)
        return told

    @classmethod
    def played(cls, deeds):
        """A new house in which the deeds of a list were done, one after the other."""
        if not isinstance(deeds, list):
            raise BadDeed()
        house = cls()
        for deed in deeds:
            if not isinstance(deed, tuple):
                raise BadDeed()
            house.do(*deed)
        return house

    def program(self, first, *, outputs):
        """The program of the rows of the deeds from this number on; its inputs are what they and the outputs use."""
        start = max(first, 0)
        rows = []
        for number, deed in enumerate(self.history()[start:], start=start):
            if deed[0] != "assign":
                raise NotAssigned(number)
            rows.append(deed[1])
        held = self._held_before(start)
        used = _names_used(rows, outputs, held)
        sets = [name for name in used if held[name].kind == "set"]
        dicts = [name for name in used if held[name].kind == "dict"]
        return Program(*rows, sets=sets, dicts=dicts, outputs=outputs)

    def _held_before(self, number):
        """What was held before the deed with this number."""
        held = self._held
        record = self._last
        while record is not None and record.number >= number:
            held = record.step_back.done_to(held)
            record = record.earlier
        return held

    def _contents(self):
        return {name: holding.content() for name, holding in self._held.items()}

    def __len__(self):
        return len(self._held)

    def __eq__(self, other):
        return isinstance(other, House) and self._contents() == other._contents()

    def __str__(self):
        return str(history_text(self.history()))


def _names_used(rows, outputs, held):
    """The names in held that the rows, or the outputs, use before they are assigned, in the order of the first use."""
    used, assigned = [], []
    for row in rows:
        name, expression = read_row(row)
        used.extend([word for word in words_of(expression) if word in held and word not in assigned])
        assigned.append(name)
    if isinstance(outputs, (list, tuple)):
        used.extend([name for name in outputs if is_name(name) and name in held and name not in assigned])
    # The keys of a dict are in the order in which they came first.
    return list({name: True for name in used})
