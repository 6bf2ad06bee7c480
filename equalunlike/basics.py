"""What is a name, an element and an entry."""

LETTERS = "abcdefghijklmnopqrstuvwxyz"
MOST_LETTERS = 4
RESERVED = ("keys", "look", "self")
HIGHEST_KEY = 999999
# The smallest number with more than forty digits.
VALUE_LIMIT = 10 ** 40


def is_whole(thing):
    """Whether thing is an integer."""
    # Python counts True and False as integers, the document does not.
    return isinstance(thing, int) and not isinstance(thing, bool)


def is_name(thing):
    """Whether thing is a name."""
    if not isinstance(thing, str) or not 1 <= len(thing) <= MOST_LETTERS:
        return False
    if thing in RESERVED:
        return False
    return all([letter in LETTERS for letter in thing])


def is_key(thing):
    """Whether thing can be the key of an element."""
    return is_whole(thing) and 0 <= thing <= HIGHEST_KEY


def is_value(thing):
    """Whether thing can be the value of an entry."""
    return is_whole(thing) and abs(thing) < VALUE_LIMIT


def is_element(thing):
    """Whether thing is an element: a tuple (key, form)."""
    if not isinstance(thing, tuple) or len(thing) != 2:
        return False
    key, form = thing
    return is_key(key) and is_name(form)


def is_entry(thing):
    """Whether thing is an entry of a dict: a tuple (key, form, value)."""
    if not isinstance(thing, tuple) or len(thing) != 3:
        return False
    key, form, value = thing
    return is_key(key) and is_name(form) and is_value(value)
