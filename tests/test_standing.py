"""Inputs that can stand: point 18."""

import random
import unittest

from equalunlike.checker import is_answer
from equalunlike.counting import sample
from equalunlike.errors import BadOutput, BadPattern
from equalunlike.programs import Program
from equalunlike.standing import is_sure, standing
from equalunlike.ways import conditions, has_pattern, taken, ways
from anyprogram import any_programs, ends_at, small_counts
from samples import ANY

MOST_TRIED = {1: 5, 3: 6, 7: 3}


def two(*rows, outputs=("c",)):
    return Program(*rows, sets=["a", "b"], outputs=outputs)


def three(*rows, outputs=("x",)):
    return Program(*rows, sets=["a", "b", "c"], outputs=tuple(outputs))


def first_small(program, output, pattern):
    """A dict from each end to the least small counts at which it stands, found by trying all of them."""
    found = {}
    for counts in small_counts(program.patterns, MOST_TRIED[program.patterns]):
        if counts[pattern - 1]:
            form, value = ends_at(program, counts)[output].get(pattern, (None, None))
            if form is not None:
                found.setdefault(form if value is None else (form, value), counts)
    return found


class StandingTest(unittest.TestCase):
    def check(self, program, output, pattern):
        """What can stand there; it is right and least as far as that can be tried."""
        told = standing(program, output, pattern)
        self.assertIs(type(told), list)
        ends = [end for end, _ in told]
        self.assertEqual(ends, sorted(set(ends)))
        self.assertLessEqual(set(ends), {end for _, end in ways(program, output, pattern)})
        small = first_small(program, output, pattern)
        self.assertLessEqual(set(small), set(ends))
        for item in told:
            self.assertEqual([type(item), len(item), type(item[1])], [tuple, 2, tuple])
            end, counts = item
            self.assertGreater(counts[pattern - 1], 0)
            self.assertEqual(taken(program, output, pattern, counts)[1], end)
            if end in small:
                self.assertEqual(counts, small[end])
            else:
                self.assertGreater(sum(counts), MOST_TRIED[program.patterns])
            self.check_run(program, output, pattern, end, counts)
        return told

    def check_run(self, program, output, pattern, end, counts):
        """A run with contents of these counts shows the end."""
        value = program.run(**sample(program, counts))[output]
        first = sum(counts[:pattern - 1])
        for key in range(first, first + counts[pattern - 1]):
            if isinstance(end, tuple):
                self.assertEqual((value.form_of(key), program.inputs[value[key]]), end)
            else:
                self.assertEqual(value.form_of(key), end)


class TestStanding(StandingTest):
    def test_a_choice(self):
        program = two("c = a & b", "c |= a")
        self.assertEqual(self.check(program, "c", 3), [("a", (0, 1, 1)), ("b", (0, 0, 1))])
        self.assertEqual(self.check(program, "c", 1), [("a", (1, 0, 0))])
        self.assertEqual(self.check(program, "c", 2), [])

    def test_without_choices(self):
        program = two("c = b | a")
        self.assertEqual(self.check(program, "c", 1), [("a", (1, 0, 0))])
        self.assertEqual(self.check(program, "c", 2), [("b", (0, 1, 0))])
        self.assertEqual(self.check(program, "c", 3), [("b", (0, 0, 1))])

    def test_the_order_is_that_of_the_ends(self):
        program = Program("c = z & b", sets=["z", "b"], outputs=["c"])
        self.assertEqual(self.check(program, "c", 3), [("b", (0, 0, 1)), ("z", (0, 1, 1))])

    def test_several_ways_with_the_same_end(self):
        program = three("x = (a & b) & (b & a)")
        self.assertEqual([end for _, end in ways(program, "x", 3)], ["a", "b", "b", "a"])
        self.assertEqual([end for end, _ in self.check(program, "x", 3)], ["a", "b"])
        # The first way to b asks for greater counts than the second one.
        program = three("x = (b & a) & (a & b)")
        self.assertEqual(self.check(program, "x", 3)[1], ("b", (0, 0, 1, 0, 0, 0, 0)))

    def test_ends_that_no_counts_bring_about(self):
        program = two("c = a & (a | b)")
        self.assertEqual([end for _, end in ways(program, "c", 3)], ["a", "a"])
        self.assertEqual(self.check(program, "c", 3), [("a", (0, 0, 1))])
        program = two("c = (b | a) & (a @ b)")
        self.assertEqual([end for _, end in ways(program, "c", 3)], ["b", "a"])
        self.assertEqual(self.check(program, "c", 3), [("a", (0, 0, 1))])
        self.assertTrue(is_sure(program, "c"))
        program = two("c = (a @ b) & (b | a)")
        self.assertEqual(self.check(program, "c", 3), [("a", (0, 1, 1)), ("b", (0, 0, 1))])

    def test_counts_that_must_be_great(self):
        program = three(
            "x = (a - b - c | a @ b @ c) & (b - a - c | b @ a @ c)",
            "x = (x | (a ^ b) - c) & (c - a - b | c @ a @ b)",
            "x = (x | a ^ b ^ c) & (a @ b)",
        )
        told = dict(self.check(program, "x", 7))
        self.assertGreater(max(sum(counts) for counts in told.values()), 3)

    def test_dicts_have_pairs(self):
        program = Program("x = d | e", dicts=["d", "e"], outputs=["x"])
        self.assertEqual(self.check(program, "x", 1), [(("d", "d"), (1, 0, 0))])
        self.assertEqual(self.check(program, "x", 3), [(("d", "e"), (0, 0, 1))])
        program = Program("x = look(keys(d) & keys(e), e | d)", dicts=["d", "e"], outputs=["x"])
        self.assertEqual(self.check(program, "x", 3), [(("d", "d"), (0, 1, 1)), (("e", "d"), (0, 0, 1))])
        program = Program("x = look(s & keys(d), d)", sets=["s"], dicts=["d"], outputs=["x", "d"])
        self.assertEqual(self.check(program, "x", 3), [(("d", "d"), (0, 0, 1)), (("s", "d"), (0, 1, 1))])
        self.assertEqual(self.check(program, "d", 2), [(("d", "d"), (0, 1, 0))])
        self.assertEqual(self.check(program, "d", 1), [])

    def test_one_input(self):
        program = Program("b = a & a", "c = a - a", sets=["a"], outputs=["a", "b", "c"])
        self.assertEqual(self.check(program, "a", 1), [("a", (1,))])
        self.assertEqual(self.check(program, "b", 1), [("a", (1,))])
        self.assertEqual(self.check(program, "c", 1), [])

    def test_any_programs(self):
        sure = 0
        for program in any_programs(random.Random(50), 150):
            for output in program.outputs:
                many = [len(self.check(program, output, pattern)) for pattern in range(1, program.patterns + 1)]
                self.assertIs(is_sure(program, output), max(many) <= 1)
                sure += max(many) > 1
        self.assertGreater(sure, 10)

    def test_each_pattern_of_an_output_has_an_end(self):
        for program in any_programs(random.Random(51), 60):
            for output in program.outputs:
                for pattern in range(1, program.patterns + 1):
                    told = standing(program, output, pattern)
                    self.assertIs(bool(told), has_pattern(program, output, pattern))

    def test_the_checker_accepts_the_counts(self):
        for program in any_programs(random.Random(52), 60):
            for output in program.outputs:
                for pattern in range(1, program.patterns + 1):
                    for end, counts in standing(program, output, pattern):
                        path, found = taken(program, output, pattern, counts)
                        question = (program.patterns, conditions(program, path), pattern)
                        self.assertEqual(found, end)
                        self.assertTrue(is_answer(*question, ("possible", counts)))

    def test_the_order_of_the_inputs_changes_only_the_numbers_of_patterns(self):
        rows = ["x = a & b | c & a", "y = (x | c) & b"]
        one = Program(*rows, sets=["a", "b", "c"], outputs=["x", "y"])
        other = Program(*rows, sets=["c", "a", "b"], outputs=["x", "y"])
        for output in ("x", "y"):
            for pattern in range(1, 8):
                turned = (pattern << 1 & 7) | pattern >> 2
                ends = [end for end, _ in standing(one, output, pattern)]
                self.assertEqual([end for end, _ in standing(other, output, turned)], ends)
                sums = [sum(counts) for _, counts in standing(one, output, pattern)]
                self.assertEqual([sum(counts) for _, counts in standing(other, output, turned)], sums)

    def test_a_new_list_at_each_call(self):
        program = two("c = a & b")
        first = standing(program, "c", 3)
        first.append("more")
        del first[0]
        self.assertEqual(standing(program, "c", 3), [("a", (0, 1, 1)), ("b", (0, 0, 1))])
        standing(program, "c", 2).append("more")
        self.assertEqual(standing(two("c = a"), "c", 2), [])

    def test_by_name(self):
        program = two("c = a & b")
        self.assertEqual(standing(pattern=3, output="c", program=program), standing(program, "c", 3))
        self.assertIs(is_sure(output="c", program=program), False)


class TestSure(unittest.TestCase):
    def test_examples(self):
        for row, wanted in (
            ("c = a | b", True), ("c = a & b", False), ("c = a & b | a", False), ("c = a | a & b", True),
            ("c = a & a", True), ("c = a & b ^ b & a", True), ("c = a - b", True), ("c = a - a", True),
            ("c = (a | b) & a", True), ("c = a & (a - b)", True), ("c = a @ b & b", False),
        ):
            self.assertIs(is_sure(two(row), "c"), wanted, row)

    def test_each_output_on_its_own(self):
        program = two("c = a & b", outputs=["a", "c", "b"])
        self.assertEqual([is_sure(program, name) for name in "acb"], [True, False, True])

    def test_dicts(self):
        for row, wanted in (
            ("x = d | e", True), ("x = look(keys(d) & keys(e), d)", False), ("x = d @ (keys(d) & keys(e))", True),
        ):
            self.assertIs(is_sure(Program(row, dicts=["d", "e"], outputs=["x"]), "x"), wanted, row)


class TestErrors(unittest.TestCase):
    program = two("c = a & b", "e = a", outputs=["c", "a"])

    def test_bad_output(self):
        for thing in [*ANY, "b", "e", "q", ["c"], ("c",), "C", None]:
            if thing not in ("a", "c"):
                for call in (
                    lambda: standing(self.program, thing, 3), lambda: standing(self.program, thing, None),
                    lambda: is_sure(self.program, thing),
                ):
                    with self.subTest(thing), self.assertRaises(BadOutput) as caught:
                        call()
                    self.assertIs(caught.exception.name, thing)

    def test_bad_pattern(self):
        for thing in [*ANY, 0, 4, -1, True, False, "3", None, (3,), [3]]:
            if type(thing) is not int or thing not in (1, 2, 3):
                with self.subTest(thing), self.assertRaises(BadPattern) as caught:
                    standing(self.program, "c", thing)
                self.assertIs(caught.exception.value, thing)

    def test_patterns_of_other_numbers_of_inputs(self):
        one = Program(sets=["a"], outputs=["a"])
        self.assertRaises(BadPattern, standing, one, "a", 2)
        self.assertRaises(BadPattern, standing, three(outputs="a"), "a", 8)
        self.assertEqual(standing(three(outputs="a"), "a", 7), [("a", (0, 0, 0, 0, 0, 0, 1))])


if __name__ == "__main__":
    unittest.main()
