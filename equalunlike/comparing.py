"""Programs compared for all contents."""

from equalunlike.differences import can_be_compared, differences
from equalunlike.errors import Unlike
from equalunlike.solving import solve


def compare(one, other):
    """A verdict; if the programs differ, at the least counts, in the first output, at the least pattern."""
    if not can_be_compared(one, other):
        raise Unlike()
    # The same question often stands at several places.
    answers = {}
    rows = []
    solutions = []
    for output, pattern, path, other_path, conditions in differences(one, other):
        question = (tuple(conditions), pattern)
        if question not in answers:
            answers[question] = solve(one.patterns, conditions, pattern)
        word, told = answers[question]
        if word == "possible":
            solutions.append((sum(told), told, one.outputs.index(output), pattern))
        else:
            rows.append((output, pattern, path, other_path, list(told)))
    if not solutions:
        return ("alike", rows)
    _, counts, place, pattern = min(solutions)
    return ("differ", counts, one.outputs[place], pattern)
