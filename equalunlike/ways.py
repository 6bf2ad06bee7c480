"""The choices of a program, and the ways on which elements come into its outputs."""

from equalunlike.counting import are_counts
from equalunlike.errors import BadCounts, BadOutput, BadPattern
from equalunlike.following import conditions_on, followed, way_taken, ways_at
from equalunlike.questions import is_pattern


def choices(program):
    """The list of the choices."""
    found, _ = followed(program)
    return found


def has_pattern(program, output, pattern):
    """Whether the output has the keys with this pattern."""
    check_place(program, output, pattern)
    _, values = followed(program)
    return pattern in values[output]


def ways(program, output, pattern):
    """The list of the ways, [] if the output does not have the pattern."""
    check_place(program, output, pattern)
    _, values = followed(program)
    return ways_at(values[output], pattern)


def taken(program, output, pattern, counts):
    """The way that is taken at these counts, None if the output does not have the pattern."""
    check_place(program, output, pattern)
    if not are_counts(program, counts):
        raise BadCounts()
    found, values = followed(program)
    return way_taken(found, ways_at(values[output], pattern), counts)


def conditions(program, path):
    """The list of the conditions of a path."""
    return conditions_on(choices(program), path)


def check_output(program, output):
    """Raises BadOutput if this is not an output of the program."""
    if output not in program.outputs:
        raise BadOutput(output)


def check_place(program, output, pattern):
    """Raises BadOutput if this is not an output of the program, and BadPattern if this is not a pattern of it."""
    check_output(program, output)
    if not is_pattern(program.patterns, pattern):
        raise BadPattern(pattern)
