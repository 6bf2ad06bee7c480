"""Programs of the rows of a house: `House.program`, points 8 and 20."""

import random
import unittest

from equalunlike.errors import BadInputs, BadOutput, NotAssigned, TooMany
from equalunlike.house import House
from equalunlike.programs import Program
from plainhouse import NAMES, PlainHouse, any_deed, any_row, told
from samples import ANY

START = [("set", "a", [(1, "x"), (2, "x")]), ("set", "b", [(2, "y")]), ("dict", "d", [(1, "z", 5), (3, "z", 6)])]


def built(*rows, start=START):
    return House.played([*start, *[("assign", row) for row in rows]])


class TestProgram(unittest.TestCase):
    def check(self, house, first, outputs, program):
        before = told(house)
        made = house.program(first, outputs=outputs)
        self.assertIs(type(made), Program)
        self.assertEqual(made, program)
        self.assertEqual(told(house), before)

    def test_the_inputs(self):
        for rows, outputs, sets, dicts in (
            (["c = a"], ["c"], ["a"], []), (["c = b | a"], ["c"], ["b", "a"], []), (["c = d"], ["c"], [], ["d"]),
            (["c = keys(d)", "c |= a"], ["c"], ["a"], ["d"]), (["c = look(b, d)", "a = a"], ["a"], ["b", "a"], ["d"]),
            (["c = b", "c |= c"], ["c"], ["b"], []), (["a = b", "c = a"], ["c"], ["b"], []),
            (["a |= b"], ["a"], ["a", "b"], []), (["c = b @ (b - a)"], ["c"], ["b", "a"], []),
            (["e = d - a", "b = keys(e)", "c = b"], ["c"], ["a"], ["d"]),
        ):
            with self.subTest(rows=rows):
                self.check(built(*rows), 3, outputs, Program(*rows, sets=sets, dicts=dicts, outputs=outputs))

    def test_names_that_only_the_outputs_use(self):
        rows = ["c = b"]
        house = built(*rows)
        for outputs, sets, dicts in (
            (["c", "a"], ["b", "a"], []), (["a", "c"], ["b", "a"], []), (["d", "a"], ["b", "a"], ["d"]),
            (("a", "b"), ["b", "a"], []), (["b"], ["b"], []),
        ):
            self.check(house, 3, outputs, Program(*rows, sets=sets, dicts=dicts, outputs=outputs))
        house = built("a = b")
        self.check(house, 3, ["a"], Program("a = b", sets=["b"], outputs=["a"]))
        self.check(house, 3, ["b"], Program("a = b", sets=["b"], outputs=["b"]))

    def test_sets_first_then_in_the_order_of_the_first_use(self):
        rows = ["c = keys(d) & b", "c = a | c"]
        self.check(built(*rows), 3, ["c"], Program(*rows, sets=["b", "a"], dicts=["d"], outputs=["c"]))
        self.assertEqual(built("c = look(a, d)").program(3, outputs=["c", "b"]).inputs, ("a", "b", "d"))
        house = built("c = e - a | d", start=[*START, ("dict", "e", [])])
        self.assertEqual(house.program(4, outputs=["c"]).inputs, ("a", "e", "d"))

    def test_from_a_later_deed_on(self):
        house = built("c = a & b", "a = c", "c = a | b")
        self.check(house, 4, ["c"], Program("a = c", "c = a | b", sets=["c", "b"], outputs=["c"]))
        self.check(house, 5, ["c"], Program("c = a | b", sets=["a", "b"], outputs=["c"]))
        self.check(house, 5, ["c", "a"], Program("c = a | b", sets=["a", "b"], outputs=["c", "a"]))

    def test_the_kinds_are_those_before(self):
        house = built("a = look(a, d)", "d = keys(a)")
        whole = Program("a = look(a, d)", "d = keys(a)", sets=["a"], dicts=["d"], outputs=["a", "d"])
        self.check(house, 3, ["a", "d"], whole)
        self.check(house, 4, ["d"], Program("d = keys(a)", dicts=["a"], outputs=["d"]))
        house.do("drop", "a")
        house.do("set", "a", [])
        self.check(house, 7, ["a"], Program(sets=["a"], outputs=["a"]))

    def test_no_rows(self):
        house = built("c = a")
        self.check(house, 4, ["d", "c"], Program(sets=["c"], dicts=["d"], outputs=["d", "c"]))
        self.check(house, 4, ("b",), Program(sets=["b"], outputs=["b"]))
        with self.assertRaises(BadInputs):
            House().program(0, outputs=["a"])

    def test_somewhat_beyond_the_bounds(self):
        self.check(built("c = a"), 6, ["a"], Program(sets=["a"], outputs=["a"]))
        with self.assertRaises(NotAssigned) as caught:
            built("c = a").program(-1, outputs=["a"])
        self.assertEqual(caught.exception.deed, 0)

    def test_from_the_first_deed_on(self):
        house = House.played([("set", "a", []), ("assign", "b = a")])
        self.check(house, 1, ["b"], Program("b = a", sets=["a"], outputs=["b"]))
        with self.assertRaises(NotAssigned) as caught:
            house.program(0, outputs=["b"])
        self.assertEqual(vars(caught.exception), {"deed": 0})

    def test_a_deed_that_is_no_assignment(self):
        deeds = [("assign", "c = a"), ("add", "a", (7, "x")), ("assign", "a = c"), ("discard", "a", 1)]
        house = House.played(START + deeds)
        for first, number in ((0, 0), (2, 2), (3, 4), (4, 4), (5, 6), (6, 6)):
            for outputs in (["c"], [], None, ["q"]):
                with self.subTest(first=first), self.assertRaises(NotAssigned) as caught:
                    house.program(first, outputs=outputs)
                self.assertEqual(vars(caught.exception), {"deed": number})
        self.check(house, 7, ["c"], Program(sets=["c"], outputs=["c"]))

    def test_bad_inputs(self):
        house = House.played([*START, ("set", "e", []), ("assign", "c = a | b | e"), ("assign", "c = keys(d) | c")])
        self.assertRaises(BadInputs, house.program, 4, outputs=["c"])
        self.assertRaises(BadInputs, house.program, 4, outputs=[])
        self.assertEqual(house.program(5, outputs=["c"]).inputs, ("c", "d"))
        self.assertRaises(BadInputs, house.program, 5, outputs=["c", "a", "b"])
        self.assertRaises(BadInputs, house.program, 6, outputs=["a", "b", "c", "d"])
        for outputs in ([], (), None, "a", ["q"], [None], {"a": 1}, 5):
            self.assertRaises(BadInputs, house.program, 6, outputs=outputs)

    def test_too_many(self):
        for row, many, most in (("c = a", 13, 12), ("c = a & b", 5, 4), ("c &= b", 5, 4)):
            start = [*START, ("set", "c", [])]
            house = built(*[row] * many, start=start)
            with self.assertRaises(TooMany) as caught:
                house.program(4, outputs=["c"])
            self.assertEqual(vars(caught.exception), {"most": most})
            self.assertEqual(len(house.program(4 + many - most, outputs=["c"])), most)

    def test_bad_outputs(self):
        house = built("c = a")
        for thing in [*ANY, (), None, "c"]:
            if not isinstance(thing, (list, tuple)) or not thing:
                with self.subTest(thing), self.assertRaises(BadOutput) as caught:
                    house.program(3, outputs=thing)
                self.assertIs(caught.exception.name, thing)
        for thing in [*ANY, "q", "keys", ["a"]]:
            if thing not in ("a", "b", "c", "d"):
                with self.subTest(thing), self.assertRaises(BadOutput) as caught:
                    house.program(3, outputs=["c", thing])
                self.assertIs(caught.exception.name, thing)
        with self.assertRaises(BadOutput) as caught:
            house.program(3, outputs=["c", "a", "c"])
        self.assertEqual(caught.exception.name, "c")
        with self.assertRaises(BadOutput) as caught:
            house.program(3, outputs=["a", "a"])
        self.assertEqual(caught.exception.name, "a")

    def test_by_name(self):
        self.assertEqual(str(built("c = a").program(outputs=["c"], first=3)), "c = a")
        self.assertRaises(TypeError, built("c = a").program, 3, ["c"])

    def test_its_run_gives_what_the_house_has(self):
        chance = random.Random(80)
        found = 0
        while found < 120:
            plain = PlainHouse()
            for _ in range(12):
                plain.do(*any_deed(chance, plain.kinds()))
            before = House.played(plain.deeds)
            first = len(plain.deeds)
            for _ in range(chance.randint(0, 3)):
                plain.do("assign", any_row(chance, plain.kinds()))
            house = House.played(plain.deeds)
            outputs = chance.sample(NAMES, 2)
            try:
                program = house.program(first, outputs=outputs)
            except (BadInputs, BadOutput, TooMany):
                continue
            found += 1
            result = program.run(**{name: before.content(name) for name in program.inputs})
            self.assertEqual(result, {name: house.content(name) for name in outputs})


if __name__ == "__main__":
    unittest.main()
