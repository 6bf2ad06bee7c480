"""A plain model of a house: dicts and sets of Python itself, whose members carry their traces.

Python's own operations decide which of equal members stays.
"""

import copy

from equalunlike.grammar import read_row, show_expression
from anyprogram import Maker
from tagged import Tagged

NAMES = ["a", "b", "c", "d", "e", "x"]
KEYS = 8


class Item(Tagged):
    """An element with its trace; equal to all with the same key."""

    def __init__(self, key, form, trace):
        super().__init__(key, form)
        self.trace = trace


class PlainHouse:
    """names has a set of items for each set, and a dict from items to pairs (value, trace) for each dict."""

    def __init__(self):
        self.names = {}
        self.deeds = []

    def do(self, word, *rest):
        number = len(self.deeds)
        self.deeds.append((word, *rest))
        getattr(self, f"do_{word}")(number, *rest)

    def do_set(self, number, name, given):
        made = set()
        for key, form in given:
            made.add(Item(key, form, [(number, name)]))
        self.names[name] = made

    def do_dict(self, number, name, given):
        made = {}
        for key, form, value in given:
            made[Item(key, form, [(number, name)])] = (value, [(number, name)])
        self.names[name] = made

    def do_add(self, number, name, element):
        self.names[name].add(Item(*element, [(number, name)]))

    def do_discard(self, number, name, key):
        item = Item(key, "x", [])
        if isinstance(self.names[name], set):
            self.names[name].discard(item)
        else:
            self.names[name].pop(item, None)

    def do_put(self, number, name, element, value):
        self.names[name][Item(*element, [(number, name)])] = (value, [(number, name)])

    def do_default(self, number, name, element, value):
        self.names[name].setdefault(Item(*element, [(number, name)]), (value, [(number, name)]))

    def do_drop(self, number, name):
        del self.names[name]

    def do_assign(self, number, row):
        name, expression = read_row(row)
        found = self.value_of(expression)
        here = [(number, name)]
        if isinstance(found, set):
            self.names[name] = {Item(item.key, item.form, item.trace + here) for item in found}
        else:
            self.names[name] = {
                Item(item.key, item.form, item.trace + here): (value, trace + here)
                for item, (value, trace) in found.items()
            }

    def value_of(self, expression):
        if isinstance(expression, str):
            return self.names[expression]
        word, *parts = expression
        left, *rest = [self.value_of(part) for part in parts]
        if word == "keys":
            return set(left)
        right = rest[0]
        if word == "look":
            return {item: right[item] for item in left if item in right}
        if word == "|":
            return left | right
        if word == "&":
            return left & right
        if word == "^":
            return left ^ right
        if isinstance(left, set):
            return left - right if word == "-" else {item for item in left if item in right}
        return {item: left[item] for item in left if (item in right) == (word == "@")}

    def members(self, name):
        """The elements of a set or the entries of a dict, ascending."""
        held = self.names[name]
        if isinstance(held, set):
            return sorted((item.key, item.form) for item in held)
        return sorted((item.key, item.form, value) for item, (value, _) in held.items())

    def traces(self, name):
        """A dict from each key to its trace and, in a dict, the trace of its value."""
        held = self.names[name]
        if isinstance(held, set):
            return {item.key: (item.trace, None) for item in held}
        return {item.key: (item.trace, trace) for item, (_, trace) in held.items()}

    def kinds(self):
        return {name: "set" if isinstance(held, set) else "dict" for name, held in self.names.items()}

    def twin(self):
        return copy.deepcopy(self)


def any_element(chance):
    return (chance.randrange(KEYS), chance.choice(["x", "y", "z", "abcd"]))


def any_entry(chance):
    return (*any_element(chance), chance.choice([0, -1, 7, 10 ** 40 - 1, -(10 ** 40 - 1), chance.randrange(99)]))


def any_row(chance, kinds):
    """A row with any number of choices for names of these kinds."""
    maker = Maker(chance)
    maker.kinds = dict(kinds)
    maker.choices = 99
    row = maker.row()
    maker.kinds = dict(kinds)
    if chance.random() < 0.3:
        sets = [name for name, kind in kinds.items() if kind == "set"]
        dicts = [name for name, kind in kinds.items() if kind == "dict"]
        if sets and chance.random() < 0.6:
            row = f"{chance.choice(sets)} {chance.choice('@-&^|')}= {show_expression(maker.set_expression(2))}"
        elif sets and dicts:
            row = f"{chance.choice(dicts)} {chance.choice('@-')}= {show_expression(maker.set_expression(1))}"
        elif dicts:
            row = f"{chance.choice(dicts)} |= {show_expression(maker.dict_expression(1))}"
    return row


def any_deed(chance, kinds):
    """A deed that a house can do whose names have these kinds."""
    sets = [name for name, kind in kinds.items() if kind == "set"]
    dicts = [name for name, kind in kinds.items() if kind == "dict"]
    words = ["set", "dict"] * 2
    if sets:
        words += ["add"] * 3
    if dicts:
        words += ["put"] * 3 + ["default"] * 2
    if kinds:
        words += ["discard"] * 2 + ["assign"] * 9 + ["drop"] * (len(kinds) > 3)
    word = chance.choice(words)
    if word == "set":
        return (word, chance.choice(NAMES), tuple(any_element(chance) for _ in range(chance.randint(0, 7))))
    if word == "dict":
        return (word, chance.choice(NAMES), tuple(any_entry(chance) for _ in range(chance.randint(0, 7))))
    if word == "add":
        return (word, chance.choice(sets), any_element(chance))
    if word in ("put", "default"):
        *element, value = any_entry(chance)
        return (word, chance.choice(dicts), tuple(element), value)
    if word == "discard":
        return (word, chance.choice(sets + dicts), chance.randrange(KEYS))
    if word == "drop":
        return (word, chance.choice(sets + dicts))
    return (word, any_row(chance, kinds))


def any_history(chance, many):
    """A list of so many deeds, which can be done one after the other."""
    plain = PlainHouse()
    for _ in range(many):
        plain.do(*any_deed(chance, plain.kinds()))
    return plain.deeds


def told(house):
    """All that a house tells, in plain values."""
    found = {}
    for name in house.names:
        content = house.content(name)
        is_set = hasattr(content, "members")
        rows = content.members() if is_set else content.entries()
        traces = [house.trace(name, row[0]) for row in rows]
        values = None if is_set else [house.value_trace(name, row[0]) for row in rows]
        found[name] = (rows, traces, values)
    return (house.names, house.history(), str(house), found)
