"""Answers and verdicts checked, whoever wrote them."""

from equalunlike.basics import is_whole
from equalunlike.differences import can_be_compared, differences
from equalunlike.errors import BadQuestion, Unlike
from equalunlike.following import followed, way_taken, ways_at
from equalunlike.questions import factors_of, is_pattern, is_question, is_satisfied
from equalunlike.sameness import is_same


def is_answer(patterns, conditions, pattern, answer):
    """Whether any value is an answer of the question; its counts need not be the least ones."""
    if not is_question(patterns, conditions, pattern):
        raise BadQuestion()
    if not isinstance(answer, tuple) or len(answer) != 2:
        return False
    word, told = answer
    if word == "possible":
        return _is_solution(patterns, conditions, pattern, told)
    return word == "impossible" and _is_refuted(patterns, conditions, pattern, told)


def is_verdict(one, other, verdict):
    """Whether any value is a verdict on two programs; its counts need not be the least ones."""
    if not can_be_compared(one, other):
        raise Unlike()
    if not isinstance(verdict, tuple) or len(verdict) not in (2, 4):
        return False
    word, *told = verdict
    if len(told) == 1:
        return word == "alike" and _are_alike(one, other, told[0])
    counts, output, pattern = told
    return word == "differ" and _differ_at(one, other, counts, output, pattern)


def _is_solution(patterns, conditions, pattern, counts):
    if not _are_any_counts(patterns, counts) or counts[pattern - 1] == 0:
        return False
    return all([is_satisfied(condition, counts) for condition in conditions])


def _are_any_counts(patterns, thing):
    """Whether thing is a tuple of counts of any size, one for each pattern."""
    return isinstance(thing, tuple) and len(thing) == patterns and _are_from_zero_on(thing)


def _are_from_zero_on(things):
    return all([is_whole(thing) and thing >= 0 for thing in things])


def _is_refuted(patterns, conditions, pattern, multipliers):
    """Whether any value is multipliers by which the question has no solution."""
    if not isinstance(multipliers, list) or len(multipliers) != len(conditions):
        return False
    if not _are_from_zero_on(multipliers):
        return False
    weights = [0] * patterns
    for condition, multiplier in zip(conditions, multipliers):
        factors = factors_of(patterns, condition)
        weights = [weight + multiplier * factor for weight, factor in zip(weights, factors)]
    if max(weights) > 0:
        return False
    lefts = [times for condition, times in zip(conditions, multipliers) if condition[2] == "left"]
    return weights[pattern - 1] < 0 or sum(lefts) > 0


def _are_alike(one, other, rows):
    """Whether any value is the rows that show that two programs are alike."""
    wanted = differences(one, other)
    if not isinstance(rows, list) or len(rows) != len(wanted):
        return False
    return all([_is_excluded(one.patterns, difference, row) for difference, row in zip(wanted, rows)])


def _is_excluded(patterns, difference, row):
    """Whether any value is the row that shows that two programs do not differ at a place."""
    output, pattern, path, other_path, conditions = difference
    # Without paths, just one of the programs has the pattern: then they differ wherever it occurs.
    if path is None or not isinstance(row, tuple) or len(row) != 5:
        return False
    if not is_same(row[:4], (output, pattern, path, other_path)):
        return False
    return _is_refuted(patterns, conditions, pattern, row[4])


def _differ_at(one, other, counts, output, pattern):
    """Whether any values are counts, an output and a pattern at which two programs differ."""
    if output not in one.outputs or not is_pattern(one.patterns, pattern):
        return False
    if not _are_any_counts(one.patterns, counts) or counts[pattern - 1] == 0:
        return False
    return _end_at(one, counts, output, pattern) != _end_at(other, counts, output, pattern)


def _end_at(program, counts, output, pattern):
    """The end of the way that is taken at these counts; None if the output does not have the pattern."""
    choices, values = followed(program)
    way = way_taken(choices, ways_at(values[output], pattern), counts)
    return None if way is None else way[1]
