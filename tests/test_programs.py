"""Programs: points 7 to 9, and the numbers of inputs and patterns of point 10."""

import itertools
import random
import unittest

from equalunlike.dicts import FormDict
from equalunlike.errors import BadContents, BadInputs, BadKinds, BadName, BadOutput, BadRow, TooMany
from equalunlike.grammar import read_row
from equalunlike.programs import Program
from equalunlike.sets import FormSet
from samples import ANY

SET_SIGNS = ["@", "-", "&", "^", "|"]

# Expressions with two sets a and b and two dicts d and e.
VALID = [
    ("a | b", "set"), ("a & b", "set"), ("a - b", "set"), ("a ^ b", "set"), ("a @ b", "set"), ("d | e", "dict"),
    ("d - a", "dict"), ("d @ a", "dict"), ("keys(d)", "set"), ("look(a, d)", "dict"), ("a", "set"), ("d", "dict"),
    ("keys(look(a, d))", "set"), ("look(keys(d), e)", "dict"), ("d - keys(e)", "dict"), ("d @ (a & b)", "dict"),
    ("d | e - a", "dict"), ("(d | e) @ a", "dict"), ("look(a, d | e)", "dict"), ("keys(d - a) & b", "set"),
]
INVALID = [
    "d & e", "d ^ e", "d - e", "d @ e", "a | d", "d | a", "a & d", "d & a", "a ^ d", "d ^ a", "a - d", "a @ d",
    "keys(a)", "look(d, a)", "look(a, b)", "look(d, d)", "look(d, e)", "keys(keys(d))", "keys(look(a, b))",
    "a | look(a, d)", "d | keys(d)", "(a | d) | b", "a | (d & e)", "keys(d & e)", "look(a, d ^ e)", "look(a | d, d)",
    "d | e & d", "d - e - a", "d @ e @ a",
]


def make_two(*rows, outputs=("a",), sets=("a", "b"), dicts=("d",)):
    return Program(*rows, sets=sets, dicts=dicts, outputs=outputs)


class ErrorTest(unittest.TestCase):
    def refuse(self, error, fields, *rows, **more):
        with self.subTest(rows=rows, more=more), self.assertRaises(error) as caught:
            Program(*rows, **more)
        self.assertEqual(vars(caught.exception), fields)
        for name, value in fields.items():
            self.assertIs(type(getattr(caught.exception, name)), type(value))


class TestInputs(ErrorTest):
    def test_good_inputs(self):
        for sets, dicts in (
            (["a"], []), (("a",), ()), ([], ["d"]), (["a", "b"], []), (["b", "a"], ("d",)), ((), ("d", "e", "f")),
            (["a", "b", "c"], ()), (["key"], ["abcd", "look"[:3]]),
        ):
            made = Program(sets=sets, dicts=dicts, outputs=[[*sets, *dicts][0]])
            self.assertEqual(made.inputs, (*sets, *dicts))
            self.assertEqual(made.input_kinds, ("set",) * len(sets) + ("dict",) * len(dicts))
            self.assertEqual(made.patterns, {1: 1, 2: 3, 3: 7}[len(sets) + len(dicts)])
            self.assertIs(type(made.patterns), int)

    def test_either_may_be_left_out(self):
        self.assertEqual(Program(sets=["a"], outputs=["a"]).inputs, ("a",))
        self.assertEqual(Program(dicts=["d"], outputs=["d"]).input_kinds, ("dict",))

    def test_sets_come_first(self):
        made = Program(outputs=["a"], dicts=["a", "b"], sets=["z"])
        self.assertEqual([made.inputs, made.input_kinds], [("z", "a", "b"), ("set", "dict", "dict")])

    def test_bad_inputs(self):
        for sets, dicts in (
            ([], []), ((), ()), (["a", "b", "c", "d"], []), ([], ["a", "b", "c", "d"]), (["a", "b"], ["c", "d"]),
            (["a", "a"], []), ([], ["d", "d"]), (["a"], ["a"]), (["a", "b"], ["b"]), (["a", "b", "a"], []),
            (["keys"], []), (["look"], []), ([], ["self"]), (["abcde"], []), (["A"], []), ([""], []), (["a "], []),
            ("a", []), ("ab", []), ([], "d"), (None, ["d"]), (["a"], None), ({"a": 1}, []), (["a"], {}), (["a"], ""),
            ([None], []), ([1], []), ([True], []), ([["a"]], []), ([("a",)], []), (["a", []], []), (["a"], [{}]),
            (5, 5),
        ):
            self.refuse(BadInputs, {}, sets=sets, dicts=dicts, outputs=["a"])

    def test_any_value(self):
        for thing in ANY:
            if thing not in ([], ()):
                self.refuse(BadInputs, {}, sets=thing, outputs=["a"])
                self.refuse(BadInputs, {}, sets=["a"], dicts=thing, outputs=["a"])
            if thing not in ("a", "z", "ab", "abc", "abcd", "key", "loo", "sel"):
                self.refuse(BadInputs, {}, sets=[thing], outputs=["a"])
                self.refuse(BadInputs, {}, sets=["a"], dicts=("b", thing), outputs=["a"])

    def test_before_all_other_errors(self):
        self.refuse(BadInputs, {}, *["c = ("] * 13, outputs=[])
        self.refuse(BadInputs, {}, "c = q", sets=["a", "a"], outputs=None)

    def test_lists_that_were_passed_stay_and_are_not_kept(self):
        sets, dicts, outputs = ["a"], ["d"], ["a", "d"]
        made = Program("a = a", sets=sets, dicts=dicts, outputs=outputs)
        self.assertEqual([sets, dicts, outputs], [["a"], ["d"], ["a", "d"]])
        sets.append("b")
        dicts.clear()
        outputs[0] = "x"
        self.assertEqual([made.inputs, made.outputs], [("a", "d"), ("a", "d")])
        self.assertEqual([made.input_kinds, made.output_kinds, made.patterns], [("set", "dict")] * 2 + [3])


class TestRows(ErrorTest):
    def test_twelve_rows(self):
        rows = [f"{name} = a" for name in "bcdefghijklm"]
        self.assertEqual(len(Program(*rows, sets=["a"], outputs=["m"])), 12)
        for more in ("n = a", "n = (", "n = q", 5):
            self.refuse(TooMany, {"most": 12}, *rows, more, sets=["a"], outputs=["m"])
        self.refuse(TooMany, {"most": 12}, *["b = ("] * 13, sets=["a"], outputs=[])
        self.refuse(TooMany, {"most": 12}, *["b = a & a"] * 13, sets=["a"], outputs=[])

    def test_bad_rows(self):
        deep = "c = " + "(" * 9 + "a" + ")" * 9
        for row in ("", "c", "c =", "c = (", "c == a", "keys = a", "c | = a", "c = a\n", deep):
            self.refuse(BadRow, {"place": 0}, row, sets=["a"], outputs=["a"])
            self.refuse(BadRow, {"place": 1}, "c = a", row, "c = a", sets=["a"], outputs=["c"])
            self.refuse(BadRow, {"place": 2}, "c = a", "c = c", row, row, sets=["a"], outputs=["c"])
        for thing in ANY:
            self.refuse(BadRow, {"place": 1}, "c = a", thing, sets=["a"], outputs=["c"])

    def test_long_rows(self):
        row = "c=" + "|".join(["a"] * 99) + "b"
        self.assertEqual(len(row), 200)
        self.assertEqual(len(Program(row, sets=["a", "ab"], outputs=["c"])), 1)
        self.refuse(BadRow, {"place": 0}, row + "b", sets=["a", "ab"], outputs=["c"])

    def test_a_bad_row_comes_before_later_checks(self):
        self.refuse(BadRow, {"place": 2}, "c = q", "c = a | d", "c = (", sets=["a"], dicts=["d"], outputs=[])
        self.refuse(BadRow, {"place": 1}, "c = a & a & a & a & a & a", "c", sets=["a"], outputs=[])

    def test_four_choices(self):
        for rows in (
            ["c = a & b & a & b & a"], ["c = a & b"] * 4, ["c = a"] + ["c &= b"] * 4, ["c = a & b", "c &= a & (b & a)"],
            ["c = a & b & a & b", "c &= b"], ["c = (a & b) | (a & b)", "d = a & b", "d &= c", "d |= a"],
        ):
            many = sum(row.count("&") for row in rows)
            self.assertEqual(many, 4)
            self.assertEqual(len(make_two(*rows, outputs=["c"])), len(rows))
            for more in ("d = a & b", "c &= a", "d = q & a", "d = d & a"):
                self.refuse(TooMany, {"most": 4}, *rows, more, sets=["a", "b"], outputs=["c"])

    def test_too_many_choices_come_before_names_kinds_and_outputs(self):
        self.refuse(TooMany, {"most": 4}, "c = q", "c = d & d & d & d & d & d", sets=["a"], dicts=["d"], outputs=[])
        self.refuse(TooMany, {"most": 4}, "c = keys(a)", *["c &= c"] * 5, sets=["a"], outputs=None)

    def test_no_rows(self):
        made = Program(sets=["a"], dicts=["d"], outputs=["d", "a"])
        self.assertEqual([len(made), str(made), bool(made)], [0, "", False])
        self.assertEqual(made.output_kinds, ("dict", "set"))


class TestNamesAndKinds(ErrorTest):
    def test_names_without_a_value(self):
        for row, name in (
            ("c = q", "q"), ("c = c", "c"), ("c |= a", "c"), ("c |= q", "c"), ("a |= q", "q"), ("c = a | q | r", "q"),
            ("c = r | q", "r"), ("c = a | (r | q)", "r"), ("c = keys(q)", "q"), ("c = look(q, r)", "q"),
            ("c = look(a, r)", "r"), ("c = a | q & r @ s", "q"), ("c = a | (q & s) @ r", "q"), ("c = p ^ q", "p"),
            ("c = look(keys(r), q)", "r"), ("c -= p & q", "c"), ("a -= p & q", "p"), ("c = a & c", "c"),
        ):
            self.refuse(BadName, {"place": 0, "name": name}, row, sets=["a"], dicts=["d"], outputs=["a"])
            self.refuse(BadName, {"place": 1, "name": name}, "x = a", row, sets=["a"], dicts=["d"], outputs=["x"])

    def test_names_that_get_values_later(self):
        self.refuse(BadName, {"place": 0, "name": "b"}, "c = b", "b = a", sets=["a"], outputs=["c"])
        self.assertEqual(len(Program("b = a", "c = b", sets=["a"], outputs=["c"])), 2)
        self.assertEqual(len(Program("c = a", "c |= c", sets=["a"], outputs=["c"])), 2)

    def test_valid_kinds(self):
        for text, kind in VALID:
            made = Program("b = a", "e = d", f"c = {text}", sets=["a"], dicts=["d"], outputs=["c"])
            self.assertEqual(made.output_kinds, (kind,), text)

    def test_other_kinds(self):
        for text in INVALID:
            row = f"z = {text}"
            inner = ("b = a", "e = d")
            self.refuse(BadKinds, {"place": 2}, *inner, row, sets=["a"], dicts=["d"], outputs=["a"])
            self.refuse(BadKinds, {"place": 3}, *inner, "z = a", row, "z = q", sets=["a"], dicts=["d"], outputs=[])

    def test_each_operation_with_all_kinds(self):
        for sign in SET_SIGNS:
            for left, right in itertools.product("ad", repeat=2):
                for row in (f"c = {left} {sign} {right}", f"{left} {sign}= {right}"):
                    good = (left + right == "aa") or (sign == "|" and left + right == "dd") or (
                        sign in "-@" and left + right == "da"
                    )
                    if good:
                        name = row[0]
                        made = Program(row, sets=["a"], dicts=["d"], outputs=[name])
                        self.assertEqual(made.output_kinds, ("set" if left == "a" else "dict",))
                    else:
                        self.refuse(BadKinds, {"place": 0}, row, sets=["a"], dicts=["d"], outputs=["a"])
        for left, right in itertools.product("ad", repeat=2):
            if left + right != "ad":
                row = f"c = look({left}, {right})"
                self.refuse(BadKinds, {"place": 0}, row, sets=["a"], dicts=["d"], outputs=["a"])

    def test_a_missing_name_comes_before_kinds_in_its_row(self):
        for row in ("c = (d & d) | q", "c = keys(a) | q", "c = look(d, a) | q", "c = a | d | q"):
            self.refuse(BadName, {"place": 0, "name": "q"}, row, sets=["a"], dicts=["d"], outputs=[])

    def test_the_first_faulty_row(self):
        more = {"sets": ["a"], "dicts": ["d"], "outputs": []}
        self.refuse(BadKinds, {"place": 1}, "c = a", "c = d & d", "c = q", **more)
        self.refuse(BadName, {"place": 1, "name": "q"}, "c = a", "c = q", "c = d & d", **more)
        self.refuse(BadName, {"place": 0, "name": "r"}, "c = r", "c = q", sets=["a"], outputs=["c"])
        self.refuse(BadKinds, {"place": 0}, "a = keys(a)", "a = keys(a)", sets=["a"], outputs=["c"])

    def test_a_name_may_get_another_kind(self):
        made = Program("a = look(a, d)", "d = keys(d)", "a -= d", sets=["a"], dicts=["d"], outputs=["a", "d"])
        self.assertEqual([made.input_kinds, made.output_kinds], [("set", "dict"), ("dict", "set")])
        self.refuse(BadKinds, {"place": 1}, "a = look(a, d)", "a = a & a", sets=["a"], dicts=["d"], outputs=["a"])


class TestOutputs(ErrorTest):
    def test_lists_and_tuples(self):
        for outputs in (["c"], ("c",), ["c", "a"], ("a", "c", "d"), ["d", "c", "a"]):
            made = Program("c = keys(d)", sets=["a"], dicts=["d"], outputs=outputs)
            self.assertEqual(made.outputs, tuple(outputs))
            self.assertEqual(made.output_kinds, tuple("dict" if name == "d" else "set" for name in outputs))

    def test_what_is_no_list_of_outputs(self):
        for thing in ANY:
            if not isinstance(thing, (list, tuple)) or not thing:
                with self.subTest(thing), self.assertRaises(BadOutput) as caught:
                    Program("c = a", sets=["a"], outputs=thing)
                self.assertIs(caught.exception.name, thing)
        for thing in ("c", "", {"c": 1}, {}, None, [], ()):
            self.refuse(BadOutput, {"name": thing}, "c = a", sets=["a"], outputs=thing)

    def test_the_first_bad_item(self):
        for thing in ANY + ["q", "keys", "self", "look", ["c"], ("c",), "c "]:
            with self.subTest(thing), self.assertRaises(BadOutput) as caught:
                Program("c = b", sets=["b"], outputs=["c", thing, "q", "c"])
            self.assertIs(caught.exception.name, thing)
            self.assertRaises(BadOutput, Program, "c = b", sets=["b"], outputs=(thing,))

    def test_an_output_twice(self):
        self.refuse(BadOutput, {"name": "c"}, "c = a", sets=["a"], outputs=["c", "a", "c", "a", "q"])
        self.refuse(BadOutput, {"name": "q"}, "c = a", sets=["a"], outputs=["c", "q", "c"])

    def test_after_all_other_errors(self):
        self.refuse(BadKinds, {"place": 0}, "c = keys(a)", sets=["a"], outputs=["q"])
        self.refuse(BadName, {"place": 0, "name": "q"}, "c = q", sets=["a"], outputs=["q"])

    def test_outputs_must_be_passed(self):
        self.assertRaises(TypeError, Program, "c = a", sets=["a"])


class TestAsking(unittest.TestCase):
    def test_len_and_truth(self):
        for many in range(13):
            made = Program(*["c = a"] * many, sets=["a"], outputs=["a"])
            self.assertEqual([len(made), bool(made)], [many, many > 0])

    def test_str(self):
        made = make_two("c=(a&b)", " c |= a - b ", "d-=keys( d )@(a|b)", "e = look(((c)),d)")
        self.assertEqual(str(made), "c = a & b\nc = c | a - b\nd = d - keys(d) @ (a | b)\ne = look(c, d)")
        self.assertEqual(str(make_two("a -= b - a")), "a = a - (b - a)")

    def test_the_rows_of_str_make_the_same_program(self):
        made = make_two("c=(a&b)", " c |= a - b ", "d-=keys( d )@(a|b)", "e = look(((c)),d)")
        self.assertEqual(make_two(*str(made).split("\n")), made)

    def test_same_programs(self):
        one = make_two("c = a & b", "c |= a", outputs=["c", "d"])
        for other in (
            make_two("c = a & b", "c |= a", outputs=("c", "d")),
            make_two("  c=a&b", "c   |=   (a)", outputs=["c", "d"]),
            make_two("c = ((a) & (b))", "c = c | a", outputs=["c", "d"], sets=["a", "b"], dicts=["d"]),
        ):
            self.assertIs(one == other, True)
            self.assertIs(one != other, False)

    def test_other_programs(self):
        one = make_two("c = a & b", "c |= a", outputs=["c", "d"])
        for other in (
            make_two("c = a & b", "c |= b", outputs=["c", "d"]), make_two("c = a & b", outputs=["c", "d"]),
            make_two("c = b & a", "c |= a", outputs=["c", "d"]),
            make_two("c |= a | c", outputs=["c", "d"], sets=["a", "c"]),
            make_two("c = a & b", "c |= a", outputs=["d", "c"]), make_two("c = a & b", "c |= a", outputs=["c"]),
            make_two("c = a & b", "c |= a", outputs=["c", "d"], sets=["b", "a"]),
            make_two("c = a & b", "c |= a", outputs=["c", "d"], sets=["a", "b", "d"], dicts=[]),
            make_two("c = a & b | a", outputs=["c", "d"]), make_two(outputs=["a", "d"]),
        ):
            self.assertIs(one == other, False)
            self.assertIs(other == one, False)
            self.assertIs(one != other, True)

    def test_the_same_rows_with_other_kinds_of_inputs(self):
        self.assertIs(Program(sets=["a"], outputs=["a"]) == Program(dicts=["a"], outputs=["a"]), False)
        self.assertIs(Program(sets=["a"], outputs=["a"]) == Program(sets=["a", "b"], outputs=["a"]), False)

    def test_a_program_equals_nothing_else(self):
        one = make_two("c = a & b", outputs=["c"])
        for thing in ANY + [str(one), ["c = a & b"], FormSet(), FormDict(), one.inputs, None]:
            self.assertIs(one == thing, False)
            self.assertIs(thing == one, False)
            self.assertIs(one != thing, True)

    def test_properties_cannot_be_set(self):
        made = make_two("c = a", outputs=["c"])
        for name in ("inputs", "input_kinds", "outputs", "output_kinds", "patterns"):
            self.assertRaises(AttributeError, setattr, made, name, ())


class TestRun(unittest.TestCase):
    def setUp(self):
        self.a, self.b = FormSet([(1, "one"), (2, "two")]), FormSet([(1, "uno"), (3, "tre")])
        self.d = FormDict([(1, "x", 5), (4, "y", -6)])
        self.e = FormDict([(1, "v", 7), (2, "w", 8)])

    def test_the_example_of_the_document(self):
        program = Program("c = a & b", "c |= a", sets=["a", "b"], outputs=["c"])
        self.assertEqual(str(program.run(a=self.a, b=self.b)["c"]), "1:uno 2:two")

    def test_each_operation_with_sets(self):
        for sign, wanted in zip("|&-^@", ("1:one 2:two 3:tre", "1:uno", "2:two", "2:two 3:tre", "1:one")):
            for row in (f"c = a {sign} b", f"c = (a) {sign} (b | b)"):
                made = Program(row, sets=["a", "b"], outputs=["c"]).run(a=self.a, b=self.b)
                self.assertEqual(str(made["c"]), wanted)
            made = Program(f"a {sign}= b", sets=["a", "b"], outputs=["a", "b"]).run(a=self.a, b=self.b)
            self.assertEqual([str(made["a"]), made["b"]], [wanted, self.b])

    def test_each_operation_with_dicts(self):
        for text, wanted in (
            ("d | e", "1:x=7 2:w=8 4:y=-6"), ("d - keys(e)", "4:y=-6"), ("d @ keys(e)", "1:x=5"),
            ("look(keys(e), d)", "1:v=5"), ("look(keys(d), e)", "1:x=7"), ("keys(d)", "1:x 4:y"),
            ("keys(e) & keys(d)", "1:x"),
        ):
            made = Program(f"c = {text}", dicts=["d", "e"], outputs=["c"]).run(d=self.d, e=self.e)
            self.assertEqual(str(made["c"]), wanted)
        made = Program("d |= e", "d -= a", sets=["a"], dicts=["d", "e"], outputs=["d"])
        self.assertEqual(str(made.run(a=self.a, d=self.d, e=self.e)["d"]), "4:y=-6")

    def test_names_assigned_anew(self):
        made = Program("c = a", "a = b", "b = c", sets=["a", "b"], outputs=["a", "b", "c"]).run(a=self.a, b=self.b)
        self.assertEqual(made, {"a": self.b, "b": self.a, "c": self.a})
        made = Program("a = keys(d)", "d = look(a, d)", "a = d - a", sets=["a"], dicts=["d"], outputs=["a", "d"])
        self.assertEqual(made.run(a=self.a, d=self.d), {"a": FormDict(), "d": self.d})

    def test_outputs_in_order(self):
        for outputs in itertools.permutations(["a", "b", "c", "d"]):
            made = Program("c = a - b", sets=["a", "b"], dicts=["d"], outputs=outputs).run(d=self.d, b=self.b, a=self.a)
            self.assertIs(type(made), dict)
            self.assertEqual(tuple(made), outputs)
            self.assertEqual(made, {"a": self.a, "b": self.b, "c": FormSet([(2, "two")]), "d": self.d})

    def test_no_rows(self):
        made = Program(sets=["a"], dicts=["d"], outputs=["d", "a"]).run(a=self.a, d=self.d)
        self.assertEqual(list(made.items()), [("d", self.d), ("a", self.a)])

    def test_the_size_decides_at_its_moment(self):
        program = Program("x = a & b", "a -= b", "y = a & b | b & a", sets=["a", "b"], outputs=["x", "y"])
        a, b = FormSet([(1, "a"), (2, "a"), (3, "a")]), FormSet([(1, "b"), (2, "b"), (4, "b")])
        self.assertEqual([str(value) for value in program.run(a=a, b=b).values()], ["1:b 2:b", "empty"])

    def test_empty_contents(self):
        program = Program("c = a & b | a", "d -= c", sets=["a", "b"], dicts=["d"], outputs=["c", "d"])
        self.assertEqual(program.run(a=FormSet(), b=FormSet(), d=FormDict()), {"c": FormSet(), "d": FormDict()})

    def test_contents_stay_and_equal_runs_give_equal_results(self):
        program = Program("a |= b", "d -= a", "b = keys(d)", sets=["a", "b"], dicts=["d"], outputs=["a", "b", "d"])
        before = self.a.members(), self.b.members(), self.d.entries()
        first = program.run(a=self.a, b=self.b, d=self.d)
        first["a"] = None
        second = program.run(a=self.a, b=self.b, d=self.d)
        third = program.run(d=self.d, b=self.b, a=self.a)
        self.assertEqual((self.a.members(), self.b.members(), self.d.entries()), before)
        self.assertEqual(second, third)
        self.assertEqual(second["a"], self.a | self.b)

    def test_any_programs_as_operations_of_sets(self):
        chance = random.Random(3)
        for _ in range(200):
            names, rows, choices = ["a", "b", "c"], [], 0
            for _ in range(chance.randint(1, 6)):
                sign = chance.choice(SET_SIGNS)
                choices += sign == "&"
                row = f"{chance.choice('abcxyz')} = {chance.choice(names)} {sign} {chance.choice(names)}"
                if choices <= 4:
                    rows.append(row)
                    names.append(row[0])
            held = {name: FormSet([(key, name) for key in range(9) if chance.random() < 0.6]) for name in "abc"}
            outputs = sorted(set(names))
            made = Program(*rows, sets=["a", "b", "c"], outputs=outputs).run(**held)
            for row in rows:
                name, (sign, left, right) = read_row(row)
                left, right = held[left], held[right]
                held[name] = {"|": left | right, "&": left & right, "-": left - right, "^": left ^ right,
                              "@": left.kept(right)}[sign]
            self.assertEqual(made, {name: held[name] for name in outputs})


class TestBadContents(unittest.TestCase):
    def setUp(self):
        self.program = Program("c = a", sets=["a", "b"], dicts=["d"], outputs=["c"])
        self.good = {"a": FormSet(), "b": FormSet([(1, "x")]), "d": FormDict()}

    def refuse(self, name, contents):
        with self.subTest(contents), self.assertRaises(BadContents) as caught:
            self.program.run(**contents)
        self.assertEqual(vars(caught.exception), {"name": name})

    def test_an_input_without_contents(self):
        self.refuse("a", {})
        for name in "abd":
            self.refuse(name, {key: value for key, value in self.good.items() if key != name})
        self.refuse("b", {"a": FormSet()})

    def test_contents_of_another_kind(self):
        for thing in ANY + [FormSet, self.program]:
            for name in "abd":
                self.refuse(name, {**self.good, name: thing})
        self.refuse("a", {**self.good, "a": FormDict()})
        self.refuse("b", {**self.good, "b": FormDict()})
        self.refuse("d", {**self.good, "d": FormSet()})

    def test_the_first_input_in_the_order_of_the_inputs(self):
        self.refuse("a", {"d": FormSet(), "b": FormDict(), "a": None})
        self.refuse("b", {"d": None, "b": None, "a": FormSet()})

    def test_other_names(self):
        self.refuse("q", {**self.good, "q": FormSet()})
        self.refuse("c", {"c": FormSet(), **self.good})
        self.refuse("z", {"z": 1, **self.good, "q": 2})
        self.refuse("q", {"q": 1, **self.good, "a": FormSet(), "z": 2})
        self.refuse("keys", {**self.good, "keys": 1, "look": 2})
        self.refuse("contents", {**self.good, "contents": self.good})
        self.refuse("A b", {**self.good, "A b": 1})

    def test_inputs_come_before_other_names(self):
        self.refuse("d", {"q": 1, "a": FormSet(), "b": FormSet(), "d": 5})
        self.refuse("a", {"q": 1})

    def test_a_faulty_run_changes_nothing(self):
        self.refuse("q", {**self.good, "q": 1})
        self.assertEqual(self.program.run(**self.good), {"c": FormSet()})


if __name__ == "__main__":
    unittest.main()
