"""Which inputs can stand in an output, and the least counts at which they do."""

from equalunlike.following import conditions_on, followed, ways_at
from equalunlike.solving import solve
from equalunlike.ways import check_output, check_place


def standing(program, output, pattern):
    """The list of the tuples (end, least counts) for each end that can stand there, ascending by ends."""
    check_place(program, output, pattern)
    choices, values = followed(program)
    least = {}
    for path, end in ways_at(values[output], pattern):
        word, counts = solve(program.patterns, conditions_on(choices, path), pattern)
        if word == "possible":
            found = (sum(counts), counts)
            least[end] = min(found, least.get(end, found))
    return [(end, counts) for end, (_, counts) in sorted(least.items())]


def is_sure(program, output):
    """Whether at each pattern of the output at most one end can stand."""
    check_output(program, output)
    return all([len(standing(program, output, pattern)) <= 1 for pattern in range(1, program.patterns + 1)])
