"""Patterns of keys, and how many keys have each pattern."""

from equalunlike.basics import is_whole
from equalunlike.dicts import FormDict
from equalunlike.errors import BadCounts
from equalunlike.programs import check_contents
from equalunlike.sets import FormSet

MOST_SAMPLED = 2000
HIGHEST_COUNT = 10 ** 40


def pattern_of(program, sought, **contents):
    """The pattern of the key sought, 0 if no input has it."""
    check_contents(program, contents)
    return sum([1 << number for number, name in enumerate(program.inputs) if sought in contents[name]])


def counts_of(program, **contents):
    """The tuple of the numbers of keys with each pattern."""
    check_contents(program, contents)
    found = {}
    for number, name in enumerate(program.inputs):
        for row in contents[name].each():
            found[row[0]] = found.get(row[0], 0) + (1 << number)
    counts = [0] * program.patterns
    for pattern in found.values():
        counts[pattern - 1] += 1
    return tuple(counts)


def sample(program, counts):
    """A dict of contents with these counts, by the names of the inputs."""
    if not are_counts(program, counts) or sum(counts) > MOST_SAMPLED:
        raise BadCounts()
    patterns = []
    for at, count in enumerate(counts):
        patterns.extend([at + 1] * count)
    contents = {}
    for number, (name, kind) in enumerate(zip(program.inputs, program.input_kinds)):
        keys = [key for key, pattern in enumerate(patterns) if pattern >> number & 1]
        if kind == "set":
            contents[name] = FormSet([(key, name) for key in keys])
        else:
            contents[name] = FormDict([(key, name, number) for key in keys])
    return contents


def are_counts(program, thing):
    """Whether thing is counts that are valid for the program."""
    if not isinstance(thing, tuple) or len(thing) != program.patterns:
        return False
    return all([is_whole(count) and 0 <= count <= HIGHEST_COUNT for count in thing])
