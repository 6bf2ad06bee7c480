"""Wanted tables: point 19."""

import itertools
import random
import time
import unittest

from equalunlike.comparing import compare
from equalunlike.errors import BadInputs, BadKinds, BadName, BadRow, BadTable, TooMany
from equalunlike.grammar import read_expression, show_expression
from equalunlike.programs import Program
from equalunlike.standing import is_sure, standing
from equalunlike.wanted import gives, shortest
from anyprogram import Maker, ends_at, small_counts
from samples import ANY

SIGNS = "@-&^|"
MOST_TRIED = {1: 6, 3: 5, 7: 2}


def tables(names):
    """All tables for these names."""
    patterns = range(1, 2 ** len(names))
    return itertools.product(
        *[[None, *[name for at, name in enumerate(names) if pattern >> at & 1]] for pattern in patterns]
    )


def expressions(names, many):
    """All expressions over these names with so many operators."""
    if many == 0:
        yield from names
    for left in range(many):
        for first in expressions(names, left):
            for second in expressions(names, many - 1 - left):
                for sign in SIGNS:
                    yield (sign, first, second)


def operators_in(expression):
    return 0 if isinstance(expression, str) else 1 + sum(operators_in(part) for part in expression[1:])


def program_of(names, text):
    return Program(f"out = {text}", sets=list(names), outputs=["out"])


def table_at(names, text, counts):
    """For each pattern the input whose element stands in the value at these counts, or None."""
    found = ends_at(program_of(names, text), counts)["out"]
    return tuple([found.get(pattern, (None,))[0] for pattern in range(1, 2 ** len(names))])


def lengths(names):
    """The smallest length for each table of three inputs, found without choices, all tables kept as tuples."""
    whole = [tuple(name if pattern >> at & 1 else None for pattern in range(1, 8)) for at, name in enumerate(names)]
    levels = [set(whole)]
    found = {table: 0 for table in whole}
    while levels[-1]:
        new = set()
        for left in range(len(levels)):
            for one, other in itertools.product(levels[left], levels[-1 - left]):
                pairs = list(zip(one, other))
                new.add(tuple([first if second else None for first, second in pairs]))
                new.add(tuple([None if second else first for first, second in pairs]))
                new.add(tuple([first or second for first, second in pairs]))
                new.add(tuple([None if first and second else first or second for first, second in pairs]))
        levels.append(new - set(found))
        found.update({table: len(levels) - 1 for table in levels[-1]})
    return found


class TestGives(unittest.TestCase):
    def check(self, names, text, table):
        """Whether the expression gives the table; it is right as far as that can be tried."""
        told = gives(names, text, table)
        self.assertIn(told, (True, False))
        broken = False
        for counts in small_counts(len(table), MOST_TRIED[len(table)]):
            found = table_at(names, text, counts)
            broken = broken or any(
                count and wanted != name for count, wanted, name in zip(counts, table, found)
            )
        if broken:
            self.assertIs(told, False, (names, text, table))
        elif not told:
            # Then greater counts show it.
            program = program_of(names, text)
            ends = [standing(program, "out", pattern) for pattern in range(1, len(table) + 1)]
            self.assertTrue(any([end for end, _ in item] not in ([name], []) for item, name in zip(ends, table)))
        return told

    def test_one_operator(self):
        for text, table in (
            ("a | b", ("a", "b", "a")), ("a - b", ("a", None, None)), ("a ^ b", ("a", "b", None)),
            ("a @ b", (None, None, "a")), ("b @ a", (None, None, "b")), ("b | a", ("a", "b", "b")),
            ("a", ("a", None, "a")), ("b", (None, "b", "b")), ("a - a", (None, None, None)),
        ):
            for other in tables("ab"):
                self.assertIs(self.check(["a", "b"], text, other), other == table)

    def test_for_some_contents_alone(self):
        for table in tables("ab"):
            self.assertIs(self.check(["a", "b"], "a & b", table), False)
            self.assertIs(self.check(["a", "b"], "a & b | a", table), False)
            self.assertIs(self.check(["a", "b"], "a | a & b", table), table == ("a", None, "a"))
            self.assertIs(self.check(["a", "b"], "(a | b) & a", table), table == ("a", None, "a"))
            self.assertIs(self.check(["a", "b"], "a & b ^ b & a", table), table == (None, None, None))
            self.assertIs(self.check(["a", "b"], "(a & b) & (b & a) - a", table), table == (None, None, None))

    def test_only_great_counts_show_that_it_does_not(self):
        text = "((a - b - c | a @ b @ c) & (b - a - c | b @ a @ c) | (a ^ b) - c) & (c - a - b | c @ a @ b) & (a @ b)"
        table = (None, None, None, None, None, None, "a")
        self.assertIs(gives(["a", "b", "c"], text, table), False)
        self.assertIs(gives(["a", "b", "c"], text, table[:6] + ("b",)), False)
        self.assertIs(gives(["a", "b", "c"], text, table[:6] + ("c",)), False)
        self.assertIs(gives(["a", "b", "c"], text, (None,) * 7), False)

    def test_none_everywhere(self):
        for names, text in ((["a"], "a ^ a"), (["a", "b"], "a - (b | a)"), (["a", "b", "c"], "a @ b @ c - c")):
            nothing = (None,) * (2 ** len(names) - 1)
            self.assertIs(self.check(names, text, nothing), True)
            self.assertIs(self.check(names, names[-1], nothing), False)

    def test_one_input(self):
        self.assertIs(self.check(["a"], "a", ("a",)), True)
        self.assertIs(self.check(["a"], "a", (None,)), False)
        self.assertIs(self.check(["a"], "a & a & a", ("a",)), True)
        self.assertIs(self.check(["a"], "a - a", ("a",)), False)
        self.assertIs(self.check(("zzzz",), "zzzz|(zzzz)", ("zzzz",)), True)

    def test_names_in_any_order_and_unused(self):
        self.assertIs(self.check(["b", "a"], "a | b", ("b", "a", "a")), True)
        self.assertIs(self.check(["b", "a"], "a | b", ("b", "a", "b")), False)
        for names in (["q", "a", "z"], ("q", "a", "z")):
            self.assertIs(self.check(names, "a | q @ z", (None, "a", "a", None, "q", "a", "a")), True)
            self.assertIs(self.check(names, "a | q @ z", (None, "a", "a", None, "z", "a", "a")), False)
        self.assertIs(self.check(["q", "z", "a"], "a | q @ z", (None, None, "q", "a", "a", "a", "a")), True)
        self.assertIs(self.check(["z", "a", "q"], "a", (None, "a", "a", None, None, "a", "a")), True)

    def test_any_spaces_and_parentheses(self):
        for text in ("a|b", "  ( a )|  b ", "((((((((a|b))))))))", "a | (b)"):
            self.assertIs(gives(["a", "b"], text, ("a", "b", "a")), True)

    def test_all_short_expressions_over_two_inputs(self):
        every = list(tables("ab"))
        for many in range(3):
            for expression in expressions("ab", many):
                text = show_expression(expression)
                table = table_at("ab", text, (1, 2, 3))
                told = self.check(["a", "b"], text, table)
                self.assertIs(told, is_sure(program_of("ab", text), "out"))
                for other in every:
                    if other != table:
                        self.assertIs(gives(["a", "b"], text, other), False)

    def test_any_expressions_over_three_inputs(self):
        chance = random.Random(60)
        found = {True: 0, False: 0}
        for _ in range(250):
            maker = Maker(chance)
            maker.kinds = {"a": "set", "b": "set", "c": "set"}
            text = show_expression(maker.set_expression(3))
            table = table_at("abc", text, tuple(chance.randint(1, 4) for _ in range(7)))
            told = self.check(["a", "b", "c"], text, table)
            self.assertIs(told, is_sure(program_of("abc", text), "out"))
            found[told] += 1
        self.assertGreater(min(found.values()), 40)

    def test_alike_exactly_with_the_same_tables(self):
        chance = random.Random(61)
        found = {True: 0, False: 0}
        for _ in range(400):
            texts = []
            for _ in range(2):
                maker = Maker(chance)
                maker.kinds = {"a": "set", "b": "set"}
                texts.append(show_expression(maker.set_expression(2)))
            table = table_at("ab", texts[0], (2, 1, 2))
            if gives(["a", "b"], texts[0], table):
                alike = compare(*[program_of("ab", text) for text in texts])[0] == "alike"
                self.assertIs(gives(["a", "b"], texts[1], table), alike, texts)
                found[alike] += 1
        self.assertGreater(min(found.values()), 20)

    def test_arguments_stay_and_go_by_name(self):
        names, table = ["a", "b"], ("a", "b", "a")
        self.assertIs(gives(table=table, expression="a | b", names=names), True)
        self.assertEqual([names, table], [["a", "b"], ("a", "b", "a")])


class TestErrorsOfGives(unittest.TestCase):
    def refuse(self, error, fields, *given):
        with self.subTest(given=given), self.assertRaises(error) as caught:
            gives(*given)
        self.assertEqual(vars(caught.exception), fields)

    def test_bad_inputs(self):
        for thing in [
            *ANY, [], (), "a", ["a", "a"], ["a", "b", "c", "d"], ["a", "b", "a"], ["keys"], ["A"], [""], [None], [1],
            [["a"]], ["a", None], {"a": 1}, None, ["abcde"], ["self"], ["look"],
        ]:
            for expression in ("a", None, "(", "a & a & a & a & a & a", "keys(a)"):
                self.refuse(BadInputs, {}, thing, expression, ("a",))

    def test_bad_rows(self):
        for thing in [
            *ANY, "a |", "(a", "a)", "a b", "a = b", "x = a", "a |= b", "", " ", "a - - a", "a & a & a & a & a & ",
            "(" * 9 + "a" + ")" * 9, "a|" * 100 + "aa", None, ["a"], "a + b", "a\n",
        ]:
            if thing not in ("a", "b", "z", "ab", "abc", "abcd", "key", "loo", "sel", "a ", " a"):
                self.refuse(BadRow, {"place": 0}, ["a", "b"], thing, ("a", "b", "a"))
                self.refuse(BadRow, {"place": 0}, ["a", "b"], thing, None)

    def test_200_characters_and_eight_parentheses(self):
        self.assertIs(gives(["a", "b"], "a|" * 99 + "a", ("a", None, "a")), True)
        self.assertIs(gives(["a"], "(" * 8 + "a" + ")" * 8, ("a",)), True)
        self.refuse(BadName, {"place": 0, "name": "aa"}, ["a"], "a|" * 99 + "aa", ("a",))

    def test_too_many_choices(self):
        self.assertIs(gives(["a"], "a & a & a & (a & a)", ("a",)), True)
        for text in ("a & a & a & a & a & a", "q & a & a & a & a & a", "keys(a & a) & a & a & a & a",
                     "(a & a & a) | (a & a & a) | a & a"):
            self.refuse(TooMany, {"most": 4}, ["a"], text, ("a",))
            self.refuse(TooMany, {"most": 4}, ["a"], text, None)

    def test_other_names(self):
        for text, name in (
            ("q", "q"), ("a | q", "q"), ("r | q", "r"), ("a | (r | q)", "r"), ("q @ a - r", "q"),
            ("a @ (q | r)", "q"),
            ("keys(q)", "q"), ("look(a, q)", "q"), ("look(r, q)", "r"), ("keys(a) | q", "q"), ("aa", "aa"),
            ("c", "c"),
        ):
            self.refuse(BadName, {"place": 0, "name": name}, ["a", "b"], text, ("a", "b", "a"))
            self.refuse(BadName, {"place": 0, "name": name}, ["a", "b"], text, ["a"])

    def test_keys_and_look(self):
        for text in ("keys(a)", "look(a, b)", "a | keys(b)", "look(a, a) | b", "keys(a) & b", "a - a @ keys(a)"):
            self.refuse(BadKinds, {"place": 0}, ["a", "b"], text, ("a", "b", "a"))
            self.refuse(BadKinds, {"place": 0}, ["a", "b"], text, ("a",))

    def test_bad_tables(self):
        for thing in BAD_TABLES:
            self.refuse(BadTable, {}, ["a", "b"], "a | b", thing)
        self.refuse(BadTable, {}, ["a"], "a", ("b",))
        self.refuse(BadTable, {}, ["a", "b", "c"], "a", ("a",) * 7)
        self.refuse(BadTable, {}, ["b", "a"], "a", ("a", "b", "a"))


BAD_TABLES = [
    *[thing for thing in ANY if thing != (None, None, None)], [], ["a", "b", "a"], ("a", "b"), ("a",),
    ("a", "b", "a", None), ("a", "b", "a") * 2, (), None, "aba",
    ("b", "b", "a"), ("a", "a", "a"), ("a", "b", "c"), ("a", "b", ""), ("a", "b", "A"), ("a", "b", True),
    ("a", "b", 0), (False, "b", "a"), ("a", "b", ["a"]), ("a", "b", ("a",)), (["a"], "b", "a"),
    {0: "a", 1: "b", 2: "a"},
    ("a", "b", "a "), (1, 2, 1), ("a", "b", {}),
]


class TestShortest(unittest.TestCase):
    def check(self, names, table, most=5):
        told = shortest(names, table, most=most)
        if told is not None:
            self.assertIs(type(told), tuple)
            length, text = told
            self.assertIs(type(length), int)
            self.assertLessEqual(length, most)
            expression = read_expression(text)
            self.assertEqual(show_expression(expression), text)
            self.assertEqual(operators_in(expression), length)
            self.assertIs(gives(names, text, table), True)
        return told

    def test_the_example_of_the_document(self):
        self.assertEqual(shortest(["a", "b"], (None, None, "a")), (1, "a @ b"))

    def test_the_length_zero(self):
        self.assertEqual(shortest(["a"], ("a",), most=0), (0, "a"))
        self.assertEqual(shortest(["b", "a"], (None, "a", "a"), most=0), (0, "a"))
        for at, name in enumerate(["x", "yy", "z"]):
            table = tuple(name if pattern >> at & 1 else None for pattern in range(1, 8))
            self.assertEqual(shortest(("x", "yy", "z"), table), (0, name))
            self.assertEqual(shortest(["x", "yy", "z"], table, most=0), (0, name))

    def test_all_tables_of_one_and_of_two_inputs(self):
        for names in (["a"], ["a", "b"], ("b", "a"), ["zz", "keyz"]):
            best = {}
            for many in range(3):
                for expression in expressions(names, many):
                    text = show_expression(expression)
                    table = table_at(names, text, (2, 1, 3)[:2 ** len(names) - 1])
                    if table not in best and gives(names, text, table):
                        best[table] = many
            self.assertEqual(set(best), set(tables(names)))
            for table, many in best.items():
                for most in range(6):
                    told = self.check(names, table, most)
                    self.assertEqual(told and told[0], many if many <= most else None)

    def test_all_tables_of_three_inputs(self):
        names = ["a", "b", "c"]
        wanted = lengths(names)
        self.assertEqual(set(wanted), set(tables(names)))
        self.assertEqual(max(wanted.values()), 5)
        for table, many in wanted.items():
            self.assertEqual(self.check(names, table)[0], many)

    def test_expressions_with_choices_are_not_shorter(self):
        names = ["a", "b", "c"]
        wanted = lengths(names)
        for many in range(3):
            for expression in expressions(names, many):
                text = show_expression(expression)
                table = table_at(names, text, (3, 1, 2, 5, 4, 2, 1))
                if wanted[table] > many:
                    self.assertIs(gives(names, text, table), False)

    def test_longer_than_most(self):
        names = ["a", "b", "c"]
        chance = random.Random(62)
        wanted = lengths(names)
        for table in chance.sample(sorted(wanted, key=str), 60):
            for most in range(6):
                told = self.check(names, table, most)
                self.assertEqual(told and told[0], wanted[table] if wanted[table] <= most else None)

    def test_the_order_of_the_names(self):
        names = ["a", "b", "c"]
        for order in itertools.permutations(range(3)):
            turned = [names[at] for at in order]
            for table in list(tables(names))[::37]:
                other = [None] * 7
                for pattern in range(1, 8):
                    place = sum(1 << new for new, at in enumerate(order) if pattern >> at & 1)
                    other[place - 1] = table[pattern - 1]
                self.assertEqual(self.check(turned, tuple(other))[0], self.check(names, table)[0])

    def test_somewhat_beyond_the_bounds_of_most(self):
        self.assertIsNone(shortest(["a"], ("a",), most=-1))
        self.assertEqual(self.check(["a"], (None,), most=7)[0], 1)
        table = next(table for table, many in lengths(["a", "b", "c"]).items() if many == 5)
        self.assertEqual(self.check(["a", "b", "c"], table, most=6)[0], 5)

    def test_most_goes_by_name(self):
        self.assertRaises(TypeError, shortest, ["a"], ("a",), 5)
        self.assertEqual(shortest(most=3, table=("a",), names=["a"]), (0, "a"))

    def test_arguments_stay_and_calls_are_alike(self):
        names, table = ["a", "b", "c"], ("a", "b", None, "c", "a", None, "c")
        first = shortest(names, table)
        self.assertEqual(names, ["a", "b", "c"])
        self.assertEqual(shortest(names, table), first)

    def test_in_reasonable_time(self):
        names = ["a", "b", "c"]
        longest = [table for table, many in lengths(names).items() if many == 5]
        start = time.perf_counter()
        for table in longest[:40]:
            self.assertEqual(shortest(names, table)[0], 5)
            self.assertIsNone(shortest(names, table, most=4))
        self.assertLess(time.perf_counter() - start, 20)

    def test_bad_inputs(self):
        for thing in [*ANY, [], (), "a", ["a", "a"], ["a", "b", "c", "d"], ["keys"], ["A"], [None], {"a": 1}, None]:
            with self.subTest(thing):
                self.assertRaises(BadInputs, shortest, thing, ("a",))
                self.assertRaises(BadInputs, shortest, thing, None, most=0)

    def test_bad_tables(self):
        for thing in BAD_TABLES:
            with self.subTest(thing):
                self.assertRaises(BadTable, shortest, ["a", "b"], thing)
                self.assertRaises(BadTable, shortest, ("a", "b"), thing, most=0)
        self.assertRaises(BadTable, shortest, ["b", "a"], ("a", "b", "a"))


if __name__ == "__main__":
    unittest.main()
