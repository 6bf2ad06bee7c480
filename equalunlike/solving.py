"""Questions answered: least counts that satisfy conditions, or multipliers that refute them."""

from equalunlike.errors import BadQuestion
from equalunlike.questions import factors_of, is_question
from equalunlike.tableau import Tableau


def solve(patterns, conditions, pattern):
    """An answer of the question; if it is possible, with the least solution."""
    if not is_question(patterns, conditions, pattern):
        raise BadQuestion()
    sums = [_sum_of(patterns, condition) for condition in conditions]
    # The pattern occurs if its count without 1 is not negative.
    sums.append([-1] + [int(place == pattern) for place in range(1, patterns + 1)])
    tableau = Tableau(patterns, sums)
    if tableau.settle():
        return ("possible", tableau.numbers())
    # The last share is that of the occurrence: it makes the weight of the pattern negative where it is needed.
    return ("impossible", tableau.shares()[:-1])


def _sum_of(patterns, condition):
    """The constant and the factors of a sum that is not negative if counts satisfy the condition."""
    side = condition[2]
    return [-1 if side == "left" else 0] + factors_of(patterns, condition)
