"""Whether values are the same, item by item."""

from equalunlike.basics import is_whole


def is_same(thing, wanted):
    """Whether any value is the same as the wanted one, which is made of integers, strings, lists and tuples."""
    # For Python True equals 1, so no list and no tuple is compared as a whole.
    if isinstance(wanted, list):
        return isinstance(thing, list) and _are_same(thing, wanted)
    if isinstance(wanted, tuple):
        return isinstance(thing, tuple) and _are_same(thing, wanted)
    if isinstance(wanted, str):
        return thing == wanted
    return is_whole(thing) and thing == wanted


def _are_same(things, wanted):
    if len(things) != len(wanted):
        return False
    return all([is_same(thing, item) for thing, item in zip(things, wanted)])
