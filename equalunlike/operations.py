"""What the operations do to kinds and to contents."""

from equalunlike.basics import is_name
from equalunlike.dicts import FormDict
from equalunlike.errors import BadKinds, BadName
from equalunlike.evaluation import evaluated
from equalunlike.sets import FormSet

# The kind of each operation with operands of these kinds; all others are invalid.
KINDS = {
    ("|", "set", "set"): "set",
    ("&", "set", "set"): "set",
    ("-", "set", "set"): "set",
    ("^", "set", "set"): "set",
    ("@", "set", "set"): "set",
    ("|", "dict", "dict"): "dict",
    ("-", "dict", "set"): "dict",
    ("@", "dict", "set"): "dict",
    ("keys", "dict"): "set",
    ("look", "set", "dict"): "dict",
}


def kind_of(thing):
    """The kind of the contents that a name may have; None if this can be no contents."""
    if isinstance(thing, FormSet):
        return "set"
    if isinstance(thing, FormDict):
        return "dict"
    return None


def kind_after(word, kinds):
    """The kind of an operation with operands of these kinds; None if it is invalid."""
    return KINDS.get((word, *kinds))


def kind_of_row(place, words, kinds):
    """The kind of the expression with these words in the row at this place.

    kinds has the kind of each name with a value.
    """
    for word in words:
        if is_name(word) and word not in kinds:
            raise BadName(place, word)
    kind = evaluated(words, kinds, kind_after)
    if kind is None:
        raise BadKinds(place)
    return kind


def contents_after(word, operands):
    """The form set or form dict that an operation makes."""
    if word == "keys":
        return operands[0].key_set()
    left, right = operands
    if word == "look":
        return FormDict.looked(left, right)
    if word == "|":
        return left | right
    if word == "^":
        return left ^ right
    if word == "&":
        return left & right
    if word == "-":
        return left - right
    return left.kept(right)
