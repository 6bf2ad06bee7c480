"""What the names of a house hold, with where each form and each value came in and was carried on."""

from equalunlike.basics import is_key, is_name
from equalunlike.dicts import FormDict
from equalunlike.errors import BadKey, NoName
from equalunlike.sets import FormSet


class Link:
    """The last step of a form or a value on its way: the deed, the name that it came to, and the link before.

    Names, houses and histories share links, so none ever changes.
    """

    def __init__(self, worth, deed, name, earlier=None):
        self.worth = worth
        self.deed = deed
        self.name = name
        self.earlier = earlier

    def pairs(self):
        """The trace: the list of the pairs (deed, name), from the first one on."""
        found = []
        link = self
        while link is not None:
            found.append((link.deed, link.name))
            link = link.earlier
        return found[::-1]


class Holding:
    """A set or dict of a house. It never changes.

    rows is a dict from each key to a pair of links, that of the form and that of the value, which is None in a set.
    """

    def __init__(self, kind, rows):
        self.kind = kind
        self.rows = rows

    def content(self):
        """The form set or form dict."""
        if self.kind == "set":
            return FormSet([(key, form.worth) for key, (form, _) in self.rows.items()])
        return FormDict([(key, form.worth, value.worth) for key, (form, value) in self.rows.items()])

    def row_at(self, key):
        """The pair of links of a key, which may be any value."""
        if not is_key(key) or key not in self.rows:
            raise BadKey(key)
        return self.rows[key]


def held_by(name, held):
    """The holding of a name, which may be any value, in a dict of holdings."""
    if not is_name(name) or name not in held:
        raise NoName(name)
    return held[name]


def brought_in(kind, given, deed, name):
    """The holding of what comes to a name by a deed that brings a whole set or dict."""
    if kind == "set":
        rows = {key: (Link(form, deed, name), None) for key, form in FormSet(given).members()}
    else:
        rows = {
            key: (Link(form, deed, name), Link(value, deed, name)) for key, form, value in FormDict(given).entries()
        }
    return Holding(kind, rows)


def carried_to(kind, rows, deed, name):
    """The holding of rows that an assignment carries on to a name."""
    carried_rows = {}
    for key, (form, value) in rows.items():
        carried_rows[key] = (_next(form, deed, name), _next(value, deed, name))
    return Holding(kind, carried_rows)


def _next(link, deed, name):
    """The link behind this one; None behind the None that a set has for the value."""
    return None if link is None else Link(link.worth, deed, name, link)
