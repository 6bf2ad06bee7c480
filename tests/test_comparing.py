"""Programs compared: point 17."""

import random
import time
import unittest

from equalunlike.comparing import compare
from equalunlike.counting import sample
from equalunlike.dicts import FormDict
from equalunlike.errors import Unlike
from equalunlike.programs import Program
from equalunlike.sets import FormSet
from equalunlike.ways import conditions, has_pattern, taken, ways
from anyprogram import INPUTS, Maker, ends_at, refutes, small_counts
from samples import ANY

MOST_TRIED = {1: 6, 3: 6, 7: 3}


def two(*rows, outputs=("c",)):
    return Program(*rows, sets=["a", "b"], outputs=outputs)


def three(*rows, outputs=("x",)):
    return Program(*rows, sets=["a", "b", "c"], outputs=tuple(outputs))


def dicts(*rows, outputs=("x",)):
    return Program(*rows, dicts=["d", "e"], outputs=outputs)


def first_difference(one, other, counts):
    """The first output and the least pattern at which two programs differ at these counts, or None."""
    mine, theirs = ends_at(one, counts), ends_at(other, counts)
    for output in one.outputs:
        for pattern, count in enumerate(counts, start=1):
            if count and mine[output].get(pattern) != theirs[output].get(pattern):
                return output, pattern
    return None


def refuted_rows(one, other):
    """The rows of a verdict that two programs are alike, without the multipliers, with the conditions instead."""
    return [
        (output, pattern, path, other_path, conditions(one, path) + conditions(other, other_path))
        for output in one.outputs
        for pattern in range(1, one.patterns + 1)
        for path, end in ways(one, output, pattern)
        for other_path, other_end in ways(other, output, pattern)
        if end != other_end
    ]


class VerdictTest(unittest.TestCase):
    def check(self, one, other):
        """Compares two programs; the verdict is right, and least as far as that can be tried."""
        before = str(one), str(other)
        verdict = compare(one, other)
        self.assertEqual((str(one), str(other)), before)
        self.assertIs(type(verdict), tuple)
        if verdict[0] == "alike":
            self.check_alike(one, other, verdict)
        else:
            self.check_differ(one, other, verdict)
        most = MOST_TRIED[one.patterns]
        for counts in small_counts(one.patterns, most):
            place = first_difference(one, other, counts)
            if place is not None:
                self.assertEqual(verdict, ("differ", counts, *place))
                return verdict
        if verdict[0] == "differ":
            self.assertGreater(sum(verdict[1]), most)
        return verdict

    def check_alike(self, one, other, verdict):
        word, rows = verdict
        self.assertEqual([word, type(rows)], ["alike", list])
        wanted = refuted_rows(one, other)
        self.assertEqual([row[:4] for row in rows], [row[:4] for row in wanted])
        for row, (_, pattern, _, _, both) in zip(rows, wanted):
            self.assertIs(type(row), tuple)
            self.assertEqual(len(row), 5)
            self.assertTrue(refutes(one.patterns, both, pattern, row[4]), row)
        for output in one.outputs:
            for pattern in range(1, one.patterns + 1):
                self.assertEqual(has_pattern(one, output, pattern), has_pattern(other, output, pattern))

    def check_differ(self, one, other, verdict):
        word, counts, output, pattern = verdict
        self.assertEqual([word, type(counts), len(counts)], ["differ", tuple, one.patterns])
        self.assertGreaterEqual(min(counts), 0)
        self.assertGreater(counts[pattern - 1], 0)
        self.assertEqual(first_difference(one, other, counts), (output, pattern))
        mine, theirs = taken(one, output, pattern, counts), taken(other, output, pattern, counts)
        if mine is not None and theirs is not None:
            self.assertNotEqual(mine[1], theirs[1])
        if sum(counts) <= 2000:
            contents = sample(one, counts)
            self.assertNotEqual(one.run(**contents)[output], other.run(**contents)[output])


class TestDiffer(VerdictTest):
    def test_the_example_of_the_document(self):
        program = two("c = a & b", "c |= a")
        self.assertEqual(self.check(program, two("c = a | a & b")), ("differ", (0, 0, 1), "c", 3))

    def test_in_the_patterns_that_an_output_has(self):
        self.assertEqual(self.check(two("c = a"), two("c = a | b")), ("differ", (0, 1, 0), "c", 2))
        self.assertEqual(self.check(two("c = a | b"), two("c = a")), ("differ", (0, 1, 0), "c", 2))
        self.assertEqual(self.check(two("c = a ^ b"), two("c = a | b")), ("differ", (0, 0, 1), "c", 3))
        self.assertEqual(self.check(two("c = a - a"), two("c = a")), ("differ", (0, 0, 1), "c", 3))
        self.assertEqual(self.check(three("x = a - c"), three("x = a")), ("differ", (0, 0, 0, 0, 0, 0, 1), "x", 7))
        one, other = three("x = a @ b - c"), three("x = a - a")
        self.assertEqual(self.check(one, other), ("differ", (0, 0, 1, 0, 0, 0, 0), "x", 3))

    def test_in_which_element_stands(self):
        self.assertEqual(self.check(two("c = a | b"), two("c = b | a")), ("differ", (0, 0, 1), "c", 3))
        self.assertEqual(self.check(two("c = a & b"), two("c = b & a")), ("differ", (0, 0, 1), "c", 3))
        self.assertEqual(self.check(two("c = a & b"), two("c = b @ a")), ("differ", (0, 1, 1), "c", 3))
        self.assertEqual(self.check(two("c = a @ b"), two("c = b & a")), ("differ", (1, 0, 1), "c", 3))

    def test_in_the_values_of_a_dict_alone(self):
        one, other = dicts("x = d | e"), dicts("x = look(keys(d | e), e | d)")
        self.assertEqual(self.check(one, other), ("differ", (0, 0, 1), "x", 3))
        self.assertEqual([ways(one, "x", 3), ways(other, "x", 3)], [[((), ("d", "e"))], [((), ("d", "d"))]])

    def test_in_the_forms_of_a_dict_alone(self):
        one, other = dicts("x = d | e"), dicts("x = look(keys(e | d), d | e)")
        self.assertEqual(self.check(one, other), ("differ", (0, 0, 1), "x", 3))
        self.assertEqual([ways(one, "x", 3), ways(other, "x", 3)], [[((), ("d", "e"))], [((), ("e", "e"))]])

    def test_the_smallest_sum_and_then_the_least_tuple(self):
        self.assertEqual(self.check(three("x = a"), three("x = b")), ("differ", (0, 0, 0, 0, 0, 0, 1), "x", 7))
        one, other = three("x = a - c"), three("x = b - c")
        self.assertEqual(self.check(one, other), ("differ", (0, 0, 1, 0, 0, 0, 0), "x", 3))
        # At the pattern 7 they differ at a lesser tuple, with a greater sum.
        one, other = three("x = a @ b @ c & b | a - b - c"), three("x = b @ a @ c")
        self.assertEqual(first_difference(one, other, (0, 0, 0, 0, 0, 1, 1)), ("x", 7))
        self.assertEqual(self.check(one, other), ("differ", (1, 0, 0, 0, 0, 0, 0), "x", 1))

    def test_counts_that_must_be_great(self):
        first = "x = (a - b - c | a @ b @ c) & (b - a - c | b @ a @ c)"
        second = "x = (x | (a ^ b) - c) & (c - a - b | c @ a @ b)"
        third = "x = (x | a ^ b ^ c) & (a @ b)"
        always = "x = b @ a @ c"
        for rows, counts in (
            ([first], (0, 1, 0, 0, 0, 0, 1)), ([first, second], (0, 1, 0, 2, 0, 0, 1)),
            ([first, second, third], (0, 1, 4, 2, 0, 0, 1)),
        ):
            self.assertEqual(self.check(three(*rows), three(always, *rows[1:])), ("differ", counts, "x", 7))

    def test_the_first_output_and_the_least_pattern(self):
        one = Program("c = a | b", "e = b | a", "f = a", sets=["a", "b"], outputs=["f", "e", "c"])
        other = Program("c = b | a", "e = a | b", "f = a", sets=["a", "b"], outputs=["f", "e", "c"])
        self.assertEqual(self.check(one, other), ("differ", (0, 0, 1), "e", 3))
        one = three("x = a", "y = a | b", outputs="yx")
        other = three("x = c", "y = b | a", outputs="yx")
        self.assertEqual(self.check(one, other), ("differ", (0, 0, 0, 0, 0, 0, 1), "y", 7))
        one, other = two("c = a & b", "e = a & (a | b)"), two("c = b & a", "e = b & a")
        self.assertEqual(self.check(one, other), ("differ", (0, 0, 1), "c", 3))

    def test_two_places_at_the_same_counts(self):
        # At the pattern 7 they differ if 6 occurs, too, and at the pattern 6 if 7 occurs.
        at_seven, always_seven = "(a @ b @ c) & (b @ c)", "b @ c @ a"
        at_six, always_six = "(b @ c - a) & (c @ b)", "c @ b - a"
        counts = (0, 0, 0, 0, 0, 1, 1)
        one, other = three(f"x = {at_seven} | {at_six}"), three(f"x = {always_seven} | ({always_six})")
        self.assertEqual(self.check(one, other), ("differ", counts, "x", 6))
        for outputs, pattern in (("xy", 7), ("yx", 6)):
            one = three(f"x = {at_seven}", f"y = {at_six}", outputs=outputs)
            other = three(f"x = {always_seven}", f"y = {always_six}", outputs=outputs)
            self.assertEqual(self.check(one, other), ("differ", counts, outputs[0], pattern))

    def test_any_programs(self):
        chance = random.Random(30)
        found = {"alike": 0, "differ": 0}
        for _ in range(150):
            sets, names = chance.choice(INPUTS)
            outputs = [[*sets, *names][-1]]
            one = Maker(chance).program(sets, names, outputs=outputs)
            other = Maker(chance).program(sets, names, outputs=outputs)
            if one.output_kinds == other.output_kinds:
                found[self.check(one, other)[0]] += 1
        self.assertGreater(min(found.values()), 5)

    def test_sets_with_the_same_keys_and_unlike_choices(self):
        chance = random.Random(31)
        found = {"alike": 0, "differ": 0}
        operands = ["a", "b", "c", "(a | b)", "(b | c)", "(c | a)", "(a & b)", "(b & c)", "(a ^ b ^ c)", "(a - b | c)"]
        for _ in range(120):
            rows = [" & ".join(chance.sample(operands, 2)) for _ in range(2)]
            if all(row.count("&") <= 4 for row in rows):
                one, other = (three(f"x = ({row}) @ a @ b @ c") for row in rows)
                found[self.check(one, other)[0]] += 1
        self.assertGreater(min(found.values()), 0)


class TestAlike(VerdictTest):
    def test_without_choices(self):
        for rows, others in (
            (["c = a | b"], ["c = a ^ b | a"]), (["c = a - b"], ["c = (a ^ b) @ a"]),
            (["c = a @ b"], ["c = a - (a - b)"]), (["c = a"], ["c = b", "c = a"]), (["c = a - a"], ["c = b - b"]),
        ):
            self.assertEqual(self.check(two(*rows), two(*others)), ("alike", []))

    def test_rows_in_order(self):
        one = two("c = a & b")
        left, right = ((0, "left"),), ((0, "right"),)
        word, rows = self.check(one, two("c = a & b"))
        self.assertEqual([row[:4] for row in rows], [("c", 3, left, right), ("c", 3, right, left)])
        one = two("c = a & b", "e = b | c", outputs=["e", "a", "c"])
        other = two("e = b", "c = a & b", "e |= a @ a & b", outputs=["e", "a", "c"])
        word, rows = self.check(one, two("c = a & b", "e = b | a @ b", outputs=["e", "a", "c"]))
        self.assertEqual([word, [row[0] for row in rows]], ["alike", ["c", "c"]])
        self.assertEqual(self.check(one, other)[0], "alike")

    def test_choices_told_in_other_words(self):
        one = three("x = a & b & c")
        for rows in (
            ["x = a & b", "x &= c"], ["x = (a & b) & c @ (b | c)"], ["b &= a | a", "b |= b", "x = a & c"],
            ["y = a @ b & b @ a", "x = (a & b | y) & c"],
        ):
            self.assertEqual(self.check(one, three(*rows))[0], "alike" if rows[0][0] != "b" else "differ")
        other = two("c = a & b | a & b")
        self.assertEqual(self.check(two("c = a & b"), other)[0], "alike")

    def test_each_program_with_itself(self):
        chance = random.Random(32)
        for _ in range(80):
            sets, names = chance.choice(INPUTS)
            program = Maker(chance).program(sets, names, most_rows=4)
            self.assertEqual(self.check(program, program)[0], "alike")
            turned = Program(*str(program).split("\n"), sets=sets, dicts=names, outputs=program.outputs)
            self.assertEqual(self.check(program, turned)[0], "alike")

    def test_multipliers_that_are_needed_at_several_places_are_lists_of_their_own(self):
        program = two("c = a & b", "e = c", outputs=["c", "e"])
        rows = compare(program, program)[1]
        self.assertEqual(len(rows), 4)
        before = [list(row[4]) for row in rows]
        rows[0][4].append("more")
        rows[1][4].clear()
        self.assertEqual([row[4] for row in rows[2:]], before[2:])
        self.assertEqual([row[4] for row in compare(program, program)[1]], before)

    def test_no_rows(self):
        program = Program(sets=["a"], dicts=["d"], outputs=["d", "a"])
        self.assertEqual(self.check(program, program), ("alike", []))

    def test_by_name(self):
        one, other = two("c = a"), two("c = b")
        self.assertEqual(compare(other=other, one=one), compare(one, other))


class TestFourChoicesEach(VerdictTest):
    def test_over_three_inputs(self):
        one = three(
            "u = a | b | c", "v = c | b | a", "x = u & v", "x &= x | a", "x &= x | b", "x &= v | x", outputs="xuv"
        )
        other = three(
            "v = c | b | a", "u = a | b | c", "x = u & v", "x &= x | a", "x &= x | b", "x &= v | x", outputs="xuv"
        )
        self.assertEqual(self.check(one, other)[0], "alike")
        rows = ["x = (a | b) & (b | c)", "y = (x | a) & (c | b - a)", "z = (y | c) & (x ^ b)"]
        one = three(*rows, "w = (z | a) & (y | b)", outputs="xyzw")
        other = three(*rows, "w = (y | b) & (z | a)", outputs="xyzw")
        self.assertEqual(self.check(one, one)[0], "alike")
        self.assertEqual(self.check(one, other)[0], "differ")

    def test_sixteen_ways(self):
        rows = ["u = a | b | c", "x = u & (c | b | a)", "x &= x", "x &= x", "x &= x"]
        one, other = three(*rows), three(*rows[:3], "x = x & x", "x = (x & x)")
        self.assertEqual(len(ways(one, "x", 7)), 16)
        self.assertEqual(self.check(one, other)[0], "alike")
        self.assertEqual(len(compare(one, other)[1]), 4 * 2 * 8 * 8)

    def test_any_programs(self):
        chance = random.Random(33)
        found = 0
        while found < 25:
            makers = [Maker(chance), Maker(chance)]
            one, other = (maker.program(["a", "b", "c"], [], most_rows=12, outputs=["a", "b"]) for maker in makers)
            if makers[0].choices == makers[1].choices == 0 and one.output_kinds == other.output_kinds:
                found += 1
                self.check(one, other)
                self.check(one, one)


    def test_in_reasonable_time(self):
        rows = ["u = a | b | c", "x = u & (c | b | a)", "y = x & (b | a | c)", "z = (x | y) & y", "w = z & x"]
        one = three(*rows, outputs="uxyzw")
        other = three(*rows[:3], "z = y & (x | y)", "w = x & z", outputs="uxyzw")
        start = time.perf_counter()
        verdicts = [compare(one, one)[0], compare(other, other)[0], compare(one, other)[0], compare(other, one)[0]]
        self.assertLess(time.perf_counter() - start, 20)
        self.assertEqual(verdicts[:2], ["alike", "alike"])
        self.check(one, other)


class TestUnlike(unittest.TestCase):
    def refuse(self, one, other):
        self.assertRaises(Unlike, compare, one, other)
        self.assertRaises(Unlike, compare, other, one)

    def test_other_inputs(self):
        one = Program("c = a", sets=["a", "b"], outputs=["c"])
        self.refuse(one, Program("c = a", sets=["a"], outputs=["c"]))
        self.refuse(one, Program("c = a", sets=["a", "d"], outputs=["c"]))
        self.refuse(one, Program("c = a", sets=["a", "b", "d"], outputs=["c"]))

    def test_another_order(self):
        one = Program("c = a", sets=["a", "b"], outputs=["c", "a"])
        self.refuse(one, Program("c = a", sets=["b", "a"], outputs=["c", "a"]))
        self.refuse(one, Program("c = a", sets=["a", "b"], outputs=["a", "c"]))

    def test_other_kinds(self):
        one = Program("c = a", sets=["a", "b"], outputs=["c"])
        self.refuse(one, Program("c = a", sets=["a"], dicts=["b"], outputs=["c"]))
        self.refuse(Program(sets=["a"], outputs=["a"]), Program(dicts=["a"], outputs=["a"]))
        one = Program("c = keys(d)", dicts=["d"], outputs=["c"])
        self.refuse(one, Program("c = d", dicts=["d"], outputs=["c"]))

    def test_other_outputs(self):
        one = Program("c = a", "e = a", sets=["a"], outputs=["c"])
        self.refuse(one, Program("c = a", "e = a", sets=["a"], outputs=["e"]))
        self.refuse(one, Program("c = a", "e = a", sets=["a"], outputs=["c", "e"]))

    def test_what_is_no_program(self):
        one = Program("c = a", sets=["a"], outputs=["c"])
        for thing in ANY + [FormSet(), FormDict(), str(one)]:
            self.refuse(one, thing)
            self.assertRaises(Unlike, compare, thing, thing)


if __name__ == "__main__":
    unittest.main()
