"""Wanted tables: whether an expression gives a table, and shortest expressions that do."""

from equalunlike.evaluation import words_of
from equalunlike.following import conditions_on, followed_rows, ways_at
from equalunlike.grammar import read_expression, show_expression
from equalunlike.operations import kind_of_row
from equalunlike.programs import check_choices, kinds_of_inputs
from equalunlike.solving import solve
from equalunlike.tables import Search, check_table, number_of


def gives(names, expression, table):
    """Whether the text of an expression gives the table, for all contents of set inputs with these names."""
    kinds = kinds_of_inputs(names, ())
    words = words_of(read_expression(expression))
    check_choices([words])
    kind_of_row(0, words, kinds)
    check_table(names, table)
    name = names[0]
    choices, values = followed_rows([(name, words)], kinds)
    return all([
        _always_stands(choices, values[name], pattern, wanted, len(table))
        for pattern, wanted in enumerate(table, start=1)
    ])


def shortest(names, table, *, most=5):
    """A tuple (length, text) with a shortest expression that gives the table, None if it is longer than most."""
    kinds_of_inputs(names, ())
    check_table(names, table)
    number = number_of(names, table)
    search = Search(names)
    for length in range(most + 1):
        if length > 0:
            search.grow()
        if number in search.found:
            return (length, show_expression(search.found[number]))
    return None


def _always_stands(choices, value, pattern, wanted, patterns):
    """Whether a value has the element of the wanted input at a pattern at all counts, or has no element if None is."""
    if wanted is None:
        return pattern not in value
    others = [path for path, end in ways_at(value, pattern) if end != wanted]
    answers = [solve(patterns, conditions_on(choices, path), pattern) for path in others]
    return pattern in value and all([word == "impossible" for word, _ in answers])
