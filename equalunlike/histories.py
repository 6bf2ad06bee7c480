"""Histories written and read: one row for each deed."""

from equalunlike.deeds import deed_in, deed_text
from equalunlike.errors import BadText


def history_text(deeds):
    """The deeds as rows with newlines between, "" for none."""
    return "\n".join([deed_text(deed) for deed in deeds])


def read_history(text):
    """The list of the deeds of which this is the text."""
    if not isinstance(text, str):
        raise BadText(-1)
    if not text:
        return []
    deeds = [deed_in(row) for row in text.split("\n")]
    if None in deeds:
        raise BadText(deeds.index(None))
    return deeds
