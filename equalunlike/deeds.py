"""What is a deed, and how it is written."""

from equalunlike.basics import is_element, is_entry, is_key, is_name, is_value
from equalunlike.errors import BadDeed, BadRow
from equalunlike.grammar import read_row

# The parts of each deed behind its word, in its items and in its text.
PARTS = {
    "set": ("name", "members"),
    "dict": ("name", "entries"),
    "add": ("name", "element"),
    "discard": ("name", "key"),
    "put": ("name", "element", "value"),
    "default": ("name", "element", "value"),
    "assign": ("row",),
    "drop": ("name",),
}
DIGITS = "0123456789"
MOST_DIGITS = 40


def deed_of(items):
    """The deed with these items, as the history has it. The row of an assignment may be any value here."""
    if not items or not isinstance(items[0], str) or items[0] not in PARTS:
        raise BadDeed()
    word, *things = items
    if not _are_parts(PARTS[word], things):
        raise BadDeed()
    if word in ("set", "dict"):
        name, given = things
        return (word, name, tuple(given))
    return (word, *things)


def deed_text(deed):
    """The text of a deed."""
    word, *things = deed
    texts = [_part_text(part, thing) for part, thing in zip(PARTS[word], things)]
    # What has nothing in it is written as nothing, without a space before it.
    return " ".join([word] + [text for text in texts if text])


def deed_in(text):
    """The deed of which this is the text; None if it, any value, is the text of none."""
    if not isinstance(text, str):
        return None
    words = text.split(" ")
    word = words[0]
    if word not in PARTS:
        return None
    texts = words[1:]
    if word == "assign":
        texts = [text.partition(" ")[2]]
    elif word in ("set", "dict"):
        # All that is in the set or dict is one part.
        texts = [*words[1:2], words[2:]]
    things = things_in(PARTS[word], texts)
    return None if things is None else deed_of([word, *things])


def things_in(parts, texts):
    """The list of the things of which these are the texts; None if there are none for these parts."""
    things = [_thing_in(part, text) for part, text in zip(parts, texts)]
    if len(texts) != len(parts) or None in things or not _are_parts(parts, things):
        return None
    return things


def _are_parts(parts, things):
    """Whether things, any values, can be these parts of a row."""
    return len(things) == len(parts) and all([_is_part(part, thing) for part, thing in zip(parts, things)])


def _is_part(part, thing):
    """Whether thing, any value, can be this part of a row."""
    if part == "name":
        return is_name(thing)
    if part == "key":
        return is_key(thing)
    if part == "value":
        return is_value(thing)
    if part == "element":
        return is_element(thing)
    if part == "row":
        return True
    if not isinstance(thing, (list, tuple)):
        return False
    if part == "members":
        return all([is_element(item) for item in thing])
    return all([is_entry(item) for item in thing])


def _is_row(text):
    try:
        read_row(text)
    except BadRow:
        return False
    return True


def _part_text(part, thing):
    """The text of a thing that is this part of a row."""
    if part == "element":
        return _element_text(thing)
    if part == "members":
        return " ".join([_element_text(item) for item in thing])
    if part == "entries":
        return " ".join([f"{key}:{form}={value}" for key, form, value in thing])
    return str(thing)


def _element_text(element):
    key, form = element
    return f"{key}:{form}"


def _thing_in(part, text):
    """The thing of which this is the text if it can be this part; otherwise something that cannot.

    The text of members and entries is a list of texts.
    """
    if part in ("key", "value"):
        return _whole_in(text)
    if part == "element":
        return _element_in(text)
    if part == "members":
        return [_element_in(item) for item in text]
    if part == "entries":
        return [_entry_in(item) for item in text]
    if part == "row" and not _is_row(text):
        return None
    return text


def _element_in(text):
    key, _, form = text.partition(":")
    return (_whole_in(key), form)


def _entry_in(text):
    front, _, value = text.partition("=")
    key, form = _element_in(front)
    return (key, form, _whole_in(value))


def _whole_in(text):
    """The integer of which this string is the text; None if there is none."""
    digits = text.removeprefix("-")
    if not 1 <= len(digits) <= MOST_DIGITS or not all([digit in DIGITS for digit in digits]):
        return None
    number = int(text)
    return number if str(number) == text else None
