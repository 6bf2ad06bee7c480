"""Where two programs could differ."""

from equalunlike.following import conditions_on, followed, ways_at
from equalunlike.programs import Program


def can_be_compared(one, other):
    """Whether these are programs with the same inputs and outputs, of the same kinds and in the same order."""
    return (
        isinstance(one, Program)
        and isinstance(other, Program)
        and one.inputs == other.inputs
        and one.input_kinds == other.input_kinds
        and one.outputs == other.outputs
        and one.output_kinds == other.output_kinds
    )


def differences(one, other):
    """The list of the tuples (output, pattern, path, other path, conditions) at which two programs could differ.

    They differ at the counts in which the pattern occurs and that satisfy the conditions. The paths are those of two
    ways with unlike ends, and None where just one of the programs has the pattern.
    """
    found = []
    one_choices, one_values = followed(one)
    other_choices, other_values = followed(other)
    for output in one.outputs:
        for pattern in range(1, one.patterns + 1):
            mine, theirs = one_values[output], other_values[output]
            if (pattern in mine) != (pattern in theirs):
                found.append((output, pattern, None, None, []))
            for path, other_path in _unlike(ways_at(mine, pattern), ways_at(theirs, pattern)):
                conditions = conditions_on(one_choices, path) + conditions_on(other_choices, other_path)
                found.append((output, pattern, path, other_path, conditions))
    return found


def _unlike(ways, others):
    """The pairs of the paths of two ways whose ends are unlike, in order."""
    return [
        (path, other_path)
        for path, end in ways
        for other_path, other_end in others
        if end != other_end
    ]
