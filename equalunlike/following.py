"""Values followed back to the inputs: the choices of a program, and the ways through them.

Here a value of a program is a dict from each pattern that it has to a pair (ways, source). The ways are those of the
element, in order, each a tuple (path, name of an input). The source is the name of the input from which the value of
the entry comes, and None in a set.
"""

from equalunlike.carrying import carried
from equalunlike.evaluation import after_rows
from equalunlike.questions import is_satisfied


def followed(program):
    """The list of the choices of a program, and a dict from each name to its value at the end."""
    return followed_rows(program.rows, dict(zip(program.inputs, program.input_kinds)))


def followed_rows(rows, kinds):
    """The same for rows, which are pairs (name, words). kinds has the kind of each input, in order."""
    choices = []

    def step(word, operands):
        if word != "&":
            return carried(word, operands)
        left, right = operands
        choices.append((_only(left, right), _only(right, left)))
        return _chosen(len(choices) - 1, left, right)

    return choices, after_rows(rows, _values_of_inputs(kinds), step)


def ways_at(value, pattern):
    """The list of the ways of a value at a pattern, [] if it does not have the pattern."""
    if pattern not in value:
        return []
    ways, source = value[pattern]
    if source is None:
        return list(ways)
    return [(path, (end, source)) for path, end in ways]


def way_taken(choices, ways, counts):
    """The one of the ways that is taken at these counts, None if there are no ways."""
    for path, end in ways:
        if all([is_satisfied(condition, counts) for condition in conditions_on(choices, path)]):
            return (path, end)
    return None


def conditions_on(choices, path):
    """The list of the conditions of a path."""
    conditions = []
    for number, side in path:
        first, second = choices[number]
        conditions.append((first, second, side))
    return conditions


def _values_of_inputs(kinds):
    """A dict from each input to its value."""
    values = {}
    for number, (name, kind) in enumerate(kinds.items()):
        source = name if kind == "dict" else None
        mine = [pattern for pattern in range(1, 1 << len(kinds)) if pattern >> number & 1]
        values[name] = {pattern: ([((), name)], source) for pattern in mine}
    return values


def _only(value, other):
    """The ascending tuple of the patterns that a value has and the other one has not."""
    return tuple(sorted([pattern for pattern in value if pattern not in other]))


def _chosen(number, left, right):
    """The value of the choice with this number."""
    value = {}
    for pattern in left:
        if pattern in right:
            lefts = [(((number, "left"), *path), end) for path, end in left[pattern][0]]
            rights = [(((number, "right"), *path), end) for path, end in right[pattern][0]]
            value[pattern] = (lefts + rights, None)
    return value
