"""Programs made by chance, and what they return told in another way than the package does."""

from equalunlike.grammar import read_row, show_expression
from equalunlike.programs import Program

NAMES = ["a", "b", "c", "d", "e", "x", "y"]


class Maker:
    """Makes valid expressions and programs, with at most four choices in a program."""

    def __init__(self, chance):
        self.chance = chance
        self.kinds = {}
        self.choices = 4

    def name(self, kind):
        names = [name for name, own in self.kinds.items() if own == kind]
        return self.chance.choice(names) if names else None

    def set_expression(self, depth):
        if self.name("dict") and (not self.name("set") or self.chance.random() < 0.15):
            return ("keys", self.dict_expression(depth - 1))
        if depth <= 0 or self.chance.random() < 0.2:
            return self.name("set")
        sign = self.chance.choice("&&&|^-@")
        if sign == "&" and self.choices == 0:
            sign = "|"
        if sign == "&":
            self.choices -= 1
        return (sign, self.set_expression(depth - 1), self.set_expression(depth - 1))

    def dict_expression(self, depth):
        if depth <= 0 or self.chance.random() < 0.2:
            return self.name("dict")
        sign = self.chance.choice(["|", "|", "-", "@", "look", "look"])
        if sign == "|":
            return ("|", self.dict_expression(depth - 1), self.dict_expression(depth - 1))
        if sign == "look":
            return ("look", self.set_expression(depth - 1), self.dict_expression(depth - 1))
        return (sign, self.dict_expression(depth - 1), self.set_expression(depth - 1))

    def row(self):
        name = self.chance.choice(NAMES)
        is_dict = self.name("dict") and self.chance.random() < 0.4
        expression = self.dict_expression(3) if is_dict else self.set_expression(3)
        self.kinds[name] = "dict" if is_dict else "set"
        return f"{name} = {show_expression(expression)}"

    def program(self, sets, dicts, most_rows=4, outputs=None):
        self.kinds = {**{name: "set" for name in sets}, **{name: "dict" for name in dicts}}
        self.choices = 4
        rows = [self.row() for _ in range(self.chance.randint(1, most_rows))]
        if outputs is None:
            outputs = list(self.kinds)
            self.chance.shuffle(outputs)
            outputs = outputs[:4]
        return Program(*rows, sets=sets, dicts=dicts, outputs=outputs)


INPUTS = [
    (["a"], []), ([], ["d"]), (["a", "b"], []), (["a"], ["d"]), ([], ["d", "e"]), (["a", "b", "c"], []),
    (["b", "a"], ["d"]), (["a"], ["d", "e"]), ([], ["d", "e", "a"]),
]


def any_programs(chance, many, most_rows=4):
    for _ in range(many):
        sets, dicts = chance.choice(INPUTS)
        yield Maker(chance).program(sets, dicts, most_rows)


def all_counts(patterns, total):
    """All counts with this sum, the least tuple first."""
    if patterns == 1:
        yield (total,)
        return
    for first in range(total + 1):
        for rest in all_counts(patterns - 1, total - first):
            yield (first, *rest)


def small_counts(patterns, most):
    """All counts with at most this sum: the smallest sum first, then the least tuple."""
    for total in range(most + 1):
        yield from all_counts(patterns, total)


def ends_at(program, counts):
    """For each output a dict from each pattern to the inputs from which form and value come at these counts.

    Told forwards and from the sizes of whole values, without choices, conditions and ways.
    """
    held = {}
    for number, (name, kind) in enumerate(zip(program.inputs, program.input_kinds)):
        mine = [pattern for pattern in range(1, program.patterns + 1) if pattern & 2 ** number]
        held[name] = {pattern: (name, name if kind == "dict" else None) for pattern in mine}
    for row in str(program).split("\n") if len(program) else []:
        name, expression = read_row(row)
        held[name] = end_of(expression, held, counts)
    return {name: held[name] for name in program.outputs}


def end_of(expression, held, counts):
    if isinstance(expression, str):
        return held[expression]
    word, *parts = expression
    left, *rest = [end_of(part, held, counts) for part in parts]
    if word == "keys":
        return {pattern: (form, None) for pattern, (form, _) in left.items()}
    right = rest[0]
    both = set(left) & set(right)
    if word == "look":
        return {pattern: (left[pattern][0], right[pattern][1]) for pattern in both}
    if word == "|":
        merged = {pattern: (left[pattern][0], right[pattern][1]) for pattern in both}
        return {**right, **left, **merged}
    if word == "&":
        sizes = [sum(counts[pattern - 1] for pattern in side) for side in (left, right)]
        return {pattern: (left if sizes[0] < sizes[1] else right)[pattern] for pattern in both}
    if word == "@":
        return {pattern: left[pattern] for pattern in both}
    only = {pattern: left[pattern] for pattern in left if pattern not in right}
    if word == "-":
        return only
    return {**only, **{pattern: right[pattern] for pattern in right if pattern not in left}}


def refutes(patterns, conditions, pattern, multipliers):
    """Whether multipliers refute a question, in the words of point 15."""
    if type(multipliers) is not list or len(multipliers) != len(conditions):
        return False
    if any(type(multiplier) is not int or multiplier < 0 for multiplier in multipliers):
        return False
    weights = {}
    for place in range(1, patterns + 1):
        weights[place] = 0
        for (first, second, side), multiplier in zip(conditions, multipliers):
            sign = 1 if side == "left" else -1
            weights[place] += multiplier * sign * ((place in second) - (place in first))
    if any(weight > 0 for weight in weights.values()):
        return False
    some_left = any(item[2] == "left" and multiplier > 0 for item, multiplier in zip(conditions, multipliers))
    return some_left or weights[pattern] < 0


def satisfy(conditions, counts):
    """Whether counts satisfy all conditions, in the words of point 14."""
    for first, second, side in conditions:
        is_less = sum(counts[place - 1] for place in first) < sum(counts[place - 1] for place in second)
        if is_less != {"left": True, "right": False}[side]:
            return False
    return True
