"""Form sets: sets whose equal elements can be told apart by their forms."""

from equalunlike.basics import is_element, is_key
from equalunlike.errors import BadElement, BadKey


class FormSet:
    """Elements with different keys. A form set never changes."""

    def __init__(self, given=()):
        self._forms = _first_forms(given)

    def members(self):
        """The list of the elements, ascending."""
        return sorted(self._forms.items())

    def each(self):
        """An iterator over the elements, ascending."""
        yield from self.members()

    def __contains__(self, x):
        # A list has no hash and True has that of 1: only a key is looked up.
        return is_key(x) and x in self._forms

    def form_of(self, key):
        """The form of the element with this key."""
        if key not in self:
            raise BadKey(key)
        return self._forms[key]

    def __or__(self, other):
        return _set_of(_united(self._forms, other._forms))

    def __and__(self, other):
        if len(self) < len(other):
            return _set_of(_common(self._forms, other._forms))
        return _set_of(_common(other._forms, self._forms))

    def __sub__(self, other):
        return _set_of(_rest(self._forms, other._forms))

    def __xor__(self, other):
        mine = _rest(self._forms, other._forms)
        theirs = _rest(other._forms, self._forms)
        return _set_of(_united(mine, theirs))

    def joined(self, *others):
        """self | the first other | the second one, and so on."""
        forms = dict(self._forms)
        for other in others:
            forms = _united(forms, other._forms)
        return _set_of(forms)

    def kept(self, other):
        """self @ other: the own elements whose keys the other set has."""
        return _set_of(_common(self._forms, other._forms))

    def with_element(self, element):
        """The set with the element added, if no equal one is in it."""
        return self | FormSet([element])

    def without_key(self, key):
        """The set without the key, if it has it."""
        forms = dict(self._forms)
        if key in self:
            del forms[key]
        return _set_of(forms)

    def equals(self, other):
        """Whether both sets have the same keys, in whatever forms."""
        return set(self._forms) == set(other._forms)

    def __eq__(self, other):
        return isinstance(other, FormSet) and self._forms == other._forms

    def __len__(self):
        return len(self._forms)

    def __str__(self):
        if not self._forms:
            return "empty"
        return " ".join([f"{key}:{form}" for key, form in self.members()])

    def __repr__(self):
        return f"FormSet({self.members()!r})"


def _first_forms(given):
    """A dict from each key in a list or tuple of elements to the first form that it has there."""
    if not isinstance(given, (list, tuple)):
        raise BadElement(given)
    forms = {}
    for item in given:
        if not is_element(item):
            raise BadElement(item)
        key, form = item
        forms.setdefault(key, form)
    return forms


def _set_of(forms):
    """A form set of a dict from keys to forms, which the caller gives away."""
    # What comes from form sets was checked when they were made.
    made = FormSet()
    made._forms = forms
    return made


def _united(first, second):
    """All of the first forms, and the second ones whose keys the first have not."""
    forms = dict(first)
    for key, form in second.items():
        forms.setdefault(key, form)
    return forms


def _common(forms, others):
    """The forms whose keys the others have, too."""
    return {key: form for key, form in forms.items() if key in others}


def _rest(forms, others):
    """The forms whose keys the others have not."""
    return {key: form for key, form in forms.items() if key not in others}
