"""Conditions on counts, and the questions that are made of them."""

from equalunlike.basics import is_whole

MOST_CONDITIONS = 8


def is_pattern(patterns, thing):
    """Whether thing is one of so many patterns."""
    return is_whole(thing) and 1 <= thing <= patterns


def is_question(patterns, conditions, pattern):
    """Whether these are a number of patterns, a list of conditions and a pattern."""
    if not is_whole(patterns) or patterns not in (1, 3, 7):
        return False
    if not isinstance(conditions, list) or len(conditions) > MOST_CONDITIONS:
        return False
    return all([_is_condition(patterns, item) for item in conditions]) and is_pattern(patterns, pattern)


def is_satisfied(condition, counts):
    """Whether counts satisfy a condition."""
    first, second, side = condition
    is_less = _sum_of(first, counts) < _sum_of(second, counts)
    return is_less == (side == "left")


def factors_of(patterns, condition):
    """For each pattern how often its count stands in the sum that the condition asks for.

    This sum must be 1 or more if the side is left, and 0 or more if it is right.
    """
    less, more, side = condition
    if side == "right":
        less, more = more, less
    return [int(pattern in more) - int(pattern in less) for pattern in range(1, patterns + 1)]


def _is_condition(patterns, thing):
    if not isinstance(thing, tuple) or len(thing) != 3:
        return False
    first, second, side = thing
    return _is_part(patterns, first) and _is_part(patterns, second) and side in ("left", "right")


def _is_part(patterns, thing):
    """Whether thing is a tuple of patterns, ascending and without duplicates."""
    if not isinstance(thing, tuple) or not all([is_pattern(patterns, item) for item in thing]):
        return False
    return all([low < high for low, high in zip(thing, thing[1:])])


def _sum_of(part, counts):
    return sum([counts[pattern - 1] for pattern in part])
