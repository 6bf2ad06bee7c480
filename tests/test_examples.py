"""The examples of the document."""

import unittest

from equalunlike.comparing import compare
from equalunlike.errors import BadName
from equalunlike.house import House
from equalunlike.programs import Program
from equalunlike.sets import FormSet
from equalunlike.solving import solve
from equalunlike.wanted import shortest
from equalunlike.ways import choices, taken, ways


class TestExamples(unittest.TestCase):
    def setUp(self):
        self.a, self.b = FormSet([(1, "one"), (2, "two")]), FormSet([(1, "uno"), (3, "tre")])
        self.program = Program("c = a & b", "c |= a", sets=["a", "b"], outputs=["c"])

    def test_sets(self):
        a, b = self.a, self.b
        self.assertEqual(
            [str(a & b), str(a | b), str(a ^ b), str(a.kept(b))],
            ["1:uno", "1:one 2:two 3:tre", "2:two 3:tre", "1:one"],
        )

    def test_ways(self):
        self.assertEqual(
            [choices(self.program), ways(self.program, "c", 3)],
            [[((1,), (2,))], [(((0, "left"),), "a"), (((0, "right"),), "b")]],
        )
        self.assertEqual(
            [taken(self.program, "c", 3, (1, 2, 1)), str(self.program.run(a=self.a, b=self.b)["c"])],
            [(((0, "left"),), "a"), "1:uno 2:two"],
        )

    def test_solving(self):
        self.assertEqual(
            [solve(3, [((1,), (2,), "left")], 3), solve(1, [((), (), "left")], 1)[0]],
            [("possible", (0, 1, 1)), "impossible"],
        )

    def test_comparing(self):
        other = Program("c = a | a & b", sets=["a", "b"], outputs=["c"])
        self.assertEqual(compare(self.program, other), ("differ", (0, 0, 1), "c", 3))

    def test_wanted_tables(self):
        self.assertEqual(shortest(["a", "b"], (None, None, "a")), (1, "a @ b"))

    def test_traces(self):
        house = House()
        house.do("set", "a", [(1, "x")])
        house.do("set", "b", [(1, "y"), (2, "y")])
        house.do("assign", "c = a & b")
        house.do("assign", "a = c | b")
        self.assertEqual(house.trace("a", 1), [(0, "a"), (2, "c"), (3, "a")])
        self.assertEqual(house.trace("a", 2), [(1, "b"), (3, "a")])

    def test_a_name_without_a_value(self):
        with self.assertRaises(BadName) as caught:
            Program("c = q", sets=["a"], outputs=["c"])
        self.assertEqual([caught.exception.place, caught.exception.name], [0, "q"])


if __name__ == "__main__":
    unittest.main()
