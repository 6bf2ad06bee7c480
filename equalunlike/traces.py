"""Traces checked, whoever wrote them."""

from equalunlike.sameness import is_same


def explains(house, name, key, trace):
    """Whether any value is the trace of the element with this key."""
    return is_same(trace, house.trace(name, key))


def explains_value(house, name, key, trace):
    """Whether any value is the trace of the value at this key of a dict."""
    return is_same(trace, house.value_trace(name, key))
