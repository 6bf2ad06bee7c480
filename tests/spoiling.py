"""Values that are nearly right: with one item replaced, removed or added, or of another kind."""


def spoiled(value):
    """Values that differ from this one, each at one place."""
    if isinstance(value, (list, tuple)):
        kind = type(value)
        yield (tuple if kind is list else list)(value)
        yield dict(enumerate(value))
        for at, item in enumerate(value):
            yield kind([*value[:at], *value[at + 1:]])
            for other in spoiled(item):
                yield kind([*value[:at], other, *value[at + 1:]])
        for at in range(len(value) + 1):
            for more in (None, True, 0, "a", (), [], *value[:1]):
                yield kind([*value[:at], more, *value[at:]])
        if len(value) > 1 and not same(value[::-1], value):
            yield kind(value[::-1])
    elif isinstance(value, int):
        yield from (value + 1, value - 1, -value - 1, str(value), (value,), [value], None, 10 ** 40 + value)
        if value in (0, 1):
            yield bool(value)
    elif isinstance(value, str):
        yield from (value + "a", value.upper(), value[1:], [value], (value,), None, True, 0, {value: value})
    yield from (None, {})


def same(one, other):
    """Whether two values are the same, True and 1 told apart."""
    if type(one) is not type(other):
        return False
    if isinstance(one, (list, tuple)):
        return len(one) == len(other) and all(same(*pair) for pair in zip(one, other))
    return one == other
