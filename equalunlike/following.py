"""Values followed back to the inputs: the choices of a program, and the ways through them.

Here a value of a program is a dict from each pattern that it has to a pair (ways, source). The ways are those of the
element, in order, each a tuple (path, name of an input). The source is the name of the input from which the value of
the entry comes, and None in a set.
"""

from equalunlike.evaluation import after_rows


def followed(program):
    """The list of the choices of a program, and a dict from each name to its value at the end."""
    choices = []

    def step(word, operands):
        if word != "&":
            return _kept(word, operands)
        left, right = operands
        choices.append((_only(left, right), _only(right, left)))
        return _chosen(len(choices) - 1, left, right)

    return choices, after_rows(program.rows, _inputs_of(program), step)


def ways_at(value, pattern):
    """The list of the ways of a value at a pattern, [] if it does not have the pattern."""
    if pattern not in value:
        return []
    ways, source = value[pattern]
    if source is None:
        return list(ways)
    return [(path, (end, source)) for path, end in ways]


def conditions_on(choices, path):
    """The list of the conditions of a path."""
    conditions = []
    for number, side in path:
        first, second = choices[number]
        conditions.append((first, second, side))
    return conditions


def _inputs_of(program):
    """A dict from each input to its value."""
    values = {}
    for number, (name, kind) in enumerate(zip(program.inputs, program.input_kinds)):
        source = name if kind == "dict" else None
        mine = [pattern for pattern in range(1, program.patterns + 1) if pattern >> number & 1]
        values[name] = {pattern: ([((), name)], source) for pattern in mine}
    return values


def _only(value, other):
    """The ascending tuple of the patterns that a value has and the other one has not."""
    return tuple(sorted([pattern for pattern in value if pattern not in other]))


def _chosen(number, left, right):
    """The value of the choice with this number."""
    value = {}
    for pattern in left:
        if pattern in right:
            lefts = [(((number, "left"), *path), end) for path, end in left[pattern][0]]
            rights = [(((number, "right"), *path), end) for path, end in right[pattern][0]]
            value[pattern] = (lefts + rights, None)
    return value


def _kept(word, operands):
    """The value of an operation other than a choice."""
    left = operands[0]
    if word == "keys":
        return {pattern: (ways, None) for pattern, (ways, _) in left.items()}
    right = operands[1]
    if word == "look":
        return {pattern: (left[pattern][0], right[pattern][1]) for pattern in left if pattern in right}
    if word == "@":
        return {pattern: left[pattern] for pattern in left if pattern in right}
    rest = {pattern: left[pattern] for pattern in left if pattern not in right}
    if word == "-":
        return rest
    if word == "|":
        for pattern in left:
            if pattern in right:
                # The form stays, and a value is replaced.
                rest[pattern] = (left[pattern][0], right[pattern][1])
    for pattern in right:
        if pattern not in left:
            rest[pattern] = right[pattern]
    return rest
