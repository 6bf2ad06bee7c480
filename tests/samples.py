"""Values of every kind that the document calls "any value"."""

DEEP = [{"a": ((1, [{"b": (None, [True])}]),)}]

STRINGS = [
    "", "a", "z", "ab", "abc", "abcd", "abcde", "aaaaa", "key", "keys", "look", "self", "loo", "sel",
    "keysx", "A", "aB", "Self", "KEYS", "a1", "1", "a ", " a", " ", "a b", "a\n", "\n", "a_", "_", "`", "{", "~",
    "a" * 2000, "1:x", "(1, 'x')", "empty",
]

NUMBERS = [
    0, 1, -1, 2, 7, 999998, 999999, 1000000, 1000001, -999999,
    10 ** 39, 10 ** 40 - 1, -(10 ** 40 - 1),
]

# Of these, True and False must never count as 1 and 0.
PLAIN = [None, True, False] + NUMBERS + STRINGS

HOLDERS = [
    [], (), {}, [1], (1,), {1: 2}, [1, "x"], {"x": 1}, {1: "x"}, [(1, "x")], ((1, "x"),), ((1, "x"), (2, "y")),
    [1, "x", 5], (1, "x", 5, 6), ("x", 1), ("x", "x"), (1, 1), (1, "x", "x"), ((1, "x"), 5), (1, ("x", 5)),
    ([1], "x"), (1, ["x"]), ({}, "x"), (1, {}), (1, "x", []), (1, "x", {}), (None, None), (None, None, None),
    DEEP, list(range(1000)), ("x",) * 1000,
]

ANY = PLAIN + HOLDERS
