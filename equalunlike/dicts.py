"""Form dicts: dicts whose equal keys can be told apart by their forms."""

from equalunlike.basics import is_entry, is_key
from equalunlike.errors import BadElement, BadKey
from equalunlike.sets import FormSet


class FormDict:
    """Entries (key, form, value) with different keys. A form dict never changes."""

    def __init__(self, given=()):
        self._rows = _rows_of(given)

    @staticmethod
    def looked(forms, source):
        """look(forms, source): the keys of both, with the forms of the set and the values of the dict."""
        return FormDict([(key, form, source[key]) for key, form in forms.members() if key in source])

    def entries(self):
        """The list of the entries, ascending."""
        return [(key, form, value) for key, (form, value) in sorted(self._rows.items())]

    def each(self):
        """An iterator over the entries, ascending."""
        yield from self.entries()

    def __contains__(self, x):
        # A list has no hash and True has that of 1: only a key is looked up.
        return is_key(x) and x in self._rows

    def __getitem__(self, at):
        if at not in self:
            raise BadKey(at)
        return self._rows[at][1]

    def __iter__(self):
        # Without this, Python would go over the items 0, 1, 2 and so on.
        raise TypeError("take each() or entries() of a form dict")

    def form_of(self, key):
        """The form of the entry with this key."""
        if key not in self:
            raise BadKey(key)
        return self._rows[key][0]

    def __or__(self, other):
        return _dict_of(_merged(self._rows, other._rows))

    def __sub__(self, other):
        return _dict_of({key: row for key, row in self._rows.items() if key not in other})

    def merged(self, *others):
        """self | the first other | the second one, and so on."""
        rows = dict(self._rows)
        for other in others:
            rows = _merged(rows, other._rows)
        return _dict_of(rows)

    def kept(self, other):
        """self @ other: the entries whose keys the form set has."""
        return _dict_of({key: row for key, row in self._rows.items() if key in other})

    def key_set(self):
        """keys(self): the form set of the own keys, in their forms."""
        return FormSet([(key, form) for key, form, _ in self.entries()])

    def with_entry(self, key, form, value, *, replace=True):
        """The dict with the entry. At a key that it has the form stays, and without replace the value, too."""
        one = FormDict([(key, form, value)])
        if replace or key not in self:
            return self | one
        return self.merged()

    def without_key(self, key):
        """The dict without the key, if it has it."""
        rows = dict(self._rows)
        if key in self:
            del rows[key]
        return _dict_of(rows)

    def equals(self, other):
        """Whether both dicts have the same keys and values, in whatever forms."""
        return _values_of(self._rows) == _values_of(other._rows)

    def __eq__(self, other):
        return isinstance(other, FormDict) and self._rows == other._rows

    def __len__(self):
        return len(self._rows)

    def __str__(self):
        if not self._rows:
            return "empty"
        return " ".join([f"{key}:{form}={value}" for key, form, value in self.entries()])

    def __repr__(self):
        return f"FormDict({self.entries()!r})"


def _rows_of(given):
    """A dict from each key in a list or tuple of entries to its first form and its last value there."""
    if not isinstance(given, (list, tuple)):
        raise BadElement(given)
    rows = {}
    for item in given:
        if not is_entry(item):
            raise BadElement(item)
        key, form, value = item
        first = rows[key][0] if key in rows else form
        rows[key] = (first, value)
    return rows


def _dict_of(rows):
    """A form dict of a dict from keys to pairs of form and value, which the caller gives away."""
    # What comes from form dicts was checked when they were made.
    made = FormDict()
    made._rows = rows
    return made


def _merged(first, second):
    """All of both rows. At a key of both the form is that of the first, the value that of the second."""
    rows = dict(first)
    for key, (form, value) in second.items():
        stays = first[key][0] if key in first else form
        rows[key] = (stays, value)
    return rows


def _values_of(rows):
    """The rows without their forms."""
    return {key: value for key, (_, value) in rows.items()}
