"""Choices and ways: points 11 to 13."""

import random
import unittest

from equalunlike.counting import sample
from equalunlike.errors import BadCounts, BadOutput, BadPattern
from equalunlike.programs import Program
from equalunlike.ways import choices, conditions, has_pattern, taken, ways
from anyprogram import Maker, any_programs, ends_at, satisfy, small_counts
from samples import ANY

GREAT = 10 ** 40


def two(*rows, outputs=("c",)):
    return Program(*rows, sets=["a", "b"], outputs=tuple(outputs))


def three(*rows, outputs=("x",)):
    return Program(*rows, sets=["a", "b", "c"], outputs=tuple(outputs))


def mixed(*rows, outputs=("x",)):
    return Program(*rows, sets=["a"], dicts=["d", "e"], outputs=tuple(outputs))


def path(*steps):
    """A path from steps like "2L"."""
    return tuple((int(step[0]), {"L": "left", "R": "right"}[step[1]]) for step in steps)


class TestChoices(unittest.TestCase):
    def test_the_example_of_the_document(self):
        program = two("c = a & b", "c |= a")
        self.assertEqual(choices(program), [((1,), (2,))])
        self.assertEqual(ways(program, "c", 3), [(path("0L"), "a"), (path("0R"), "b")])
        self.assertEqual(taken(program, "c", 3, (1, 2, 1)), (path("0L"), "a"))

    def test_none(self):
        self.assertEqual(choices(two("c = a | b - a @ b ^ a")), [])
        self.assertEqual(choices(two(outputs=["a"])), [])

    def test_the_order_of_evaluation_in_one_expression(self):
        program = three("x = a & b | (b & c) & (a & a)")
        self.assertEqual(choices(program), [((1, 5), (2, 6)), ((2, 3), (4, 5)), ((), ()), ((6,), (1, 3, 5))])
        program = three("x = a & (b & c)")
        self.assertEqual(choices(program), [((2, 3), (4, 5)), ((1, 3, 5), (6,))])
        program = three("x = a & b & c")
        self.assertEqual(choices(program), [((1, 5), (2, 6)), ((3,), (4, 5, 6))])

    def test_the_order_through_several_rows(self):
        program = three("x = a & b", "b = c", "y = b & a", "x &= c | b", outputs=["c"])
        self.assertEqual(choices(program), [((1, 5), (2, 6)), ((4, 6), (1, 3)), ((3,), (4, 5, 6))])

    def test_an_operator_with_the_sign_of_equality(self):
        self.assertEqual(choices(two("c = a", "c &= b | c")), [((), (2,))])
        self.assertEqual(choices(two("a &= b & a", outputs=["a"])), [((2,), (1,)), ((1,), ())])

    def test_rows_that_no_output_uses(self):
        self.assertEqual(choices(two("c = a & b", "c = b & a", "c = a")), [((1,), (2,)), ((2,), (1,))])

    def test_in_keys_and_look(self):
        program = mixed("x = look(a & keys(d), e @ (a & keys(e)))")
        self.assertEqual(choices(program), [((1, 5), (2, 6)), ((1, 3), (4, 6))])

    def test_new_at_each_call(self):
        program = two("c = a & b")
        choices(program).clear()
        choices(program).append(None)
        self.assertEqual(choices(program=program), [((1,), (2,))])

    def test_kinds_of_values(self):
        for first, second in choices(three("x = a & b & c")):
            self.assertEqual([type(first), type(second)], [tuple, tuple])


class TestHasPattern(unittest.TestCase):
    def test_each_operation(self):
        for text, wanted in (
            ("a", [1, 3]), ("b", [2, 3]), ("a | b", [1, 2, 3]), ("a & b", [3]), ("a - b", [1]), ("b - a", [2]),
            ("a ^ b", [1, 2]), ("a @ b", [3]), ("a - a", []), ("(a ^ b) & a", [1]),
        ):
            program = two(f"c = {text}")
            for pattern in (1, 2, 3):
                self.assertIs(has_pattern(program, "c", pattern), pattern in wanted)
                self.assertIs(bool(ways(program, "c", pattern)), pattern in wanted)
        self.assertIs(has_pattern(pattern=1, output="c", program=two("c = a")), True)

    def test_each_operation_with_dicts(self):
        for text, wanted in (
            ("d | e", [2, 3, 4, 5, 6, 7]), ("d - a", [2, 6]), ("d @ a", [3, 7]), ("keys(d)", [2, 3, 6, 7]),
            ("look(a, d)", [3, 7]), ("look(keys(d), e)", [6, 7]), ("look(keys(d) - a, d | e)", [2, 6]),
        ):
            program = mixed(f"x = {text}")
            self.assertEqual([pattern for pattern in range(1, 8) if has_pattern(program, "x", pattern)], wanted)


class TestWays(unittest.TestCase):
    def test_without_choices(self):
        for text, ends in (
            ("a", "a-a"), ("a | b", "aba"), ("b | a", "abb"), ("a - b", "a--"), ("a ^ b", "ab-"), ("a @ b", "--a"),
            ("b @ a", "--b"), ("(a | b) - (a - b)", "-ba"), ("b ^ a @ b", "-b-"), ("b ^ (a - b)", "abb"),
        ):
            program = two(f"c = {text}")
            for pattern, end in zip((1, 2, 3), ends):
                self.assertEqual(ways(program, "c", pattern), [] if end == "-" else [((), end)])
                self.assertEqual(taken(program, "c", pattern, (0, 0, 0)), None if end == "-" else ((), end))

    def test_an_input_as_an_output(self):
        program = two("c = b", outputs=["a", "c", "b"])
        self.assertEqual([ways(program, output, 3) for output in "acb"], [[((), "a")], [((), "b")], [((), "b")]])

    def test_names_assigned_anew(self):
        program = two("c = a", "a = b", "b = c", "c |= a", outputs=["a", "b", "c"])
        self.assertEqual([ways(program, output, 3) for output in "abc"], [[((), "b")], [((), "a")], [((), "a")]])
        self.assertEqual([ways(program, output, 2) for output in "abc"], [[((), "b")], [], [((), "b")]])

    def test_choices_within_choices(self):
        program = three("x = a & b & c")
        self.assertEqual(
            ways(program, "x", 7),
            [(path("1L", "0L"), "a"), (path("1L", "0R"), "b"), (path("1R"), "c")],
        )
        program = three("x = a & (b & c)")
        self.assertEqual(
            ways(program, "x", 7),
            [(path("1L"), "a"), (path("1R", "0L"), "b"), (path("1R", "0R"), "c")],
        )
        program = three("x = (a & b) & (c & a)")
        self.assertEqual(
            ways(program, "x", 7),
            [(path("2L", "0L"), "a"), (path("2L", "0R"), "b"), (path("2R", "1L"), "c"), (path("2R", "1R"), "a")],
        )

    def test_a_choice_is_met_once_only_on_a_path(self):
        program = two("c = a & b", "c &= c", "c &= c", "c &= c")
        found = ways(program, "c", 3)
        self.assertEqual(len(found), 16)
        sides = ["left", "right"]
        wanted = [
            (((3, first), (2, second), (1, third), (0, last)), {"left": "a", "right": "b"}[last])
            for first in sides for second in sides for third in sides for last in sides
        ]
        self.assertEqual(found, wanted)

    def test_a_choice_on_several_ways(self):
        program = two("c = a & b", "e = c & a", "e = e & c", outputs=["e", "c"])
        self.assertEqual(
            ways(program, "e", 3),
            [
                (path("2L", "1L", "0L"), "a"), (path("2L", "1L", "0R"), "b"), (path("2L", "1R"), "a"),
                (path("2R", "0L"), "a"), (path("2R", "0R"), "b"),
            ],
        )

    def test_choices_are_met_only_where_the_element_goes(self):
        program = three("x = (a & b) | c", "y = c | (a & b)", "z = c - (a & b)", "u = c @ (a & b)", outputs="xyzu")
        self.assertEqual(ways(program, "x", 7), [(path("0L"), "a"), (path("0R"), "b")])
        self.assertEqual(ways(program, "x", 3), [(path("0L"), "a"), (path("0R"), "b")])
        self.assertEqual(ways(program, "x", 5), [((), "c")])
        self.assertEqual(ways(program, "y", 7), [((), "c")])
        self.assertEqual(ways(program, "y", 3), [(path("1L"), "a"), (path("1R"), "b")])
        self.assertEqual(ways(program, "z", 5), [((), "c")])
        self.assertEqual([ways(program, "u", 7), ways(program, "u", 5)], [[((), "c")], []])

    def test_keys_and_look(self):
        program = mixed("x = keys(d) & a", "y = look(x, e)", "z = keys(y)", "u = look(a, d | e)", outputs="xyzu")
        self.assertEqual(ways(program, "x", 3), [(path("0L"), "d"), (path("0R"), "a")])
        self.assertEqual(ways(program, "y", 3), [])
        self.assertEqual(ways(program, "y", 7), [(path("0L"), ("d", "e")), (path("0R"), ("a", "e"))])
        self.assertEqual(ways(program, "z", 7), [(path("0L"), "d"), (path("0R"), "a")])
        self.assertEqual([ways(program, "u", pattern) for pattern in (3, 5, 7)],
                         [[((), ("a", "d"))], [((), ("a", "e"))], [((), ("a", "e"))]])

    def test_dicts_whose_forms_and_values_come_from_unlike_inputs(self):
        program = mixed("x = d | e", "y = e | d", "z = (d | e) - a", "u = d | e | d", outputs="xyzude")
        self.assertEqual([ways(program, output, 6) for output in "xyzu"],
                         [[((), ("d", "e"))], [((), ("e", "d"))], [((), ("d", "e"))], [((), ("d", "d"))]])
        self.assertEqual([ways(program, output, 2) for output in "xyzu"], [[((), ("d", "d"))]] * 4)
        self.assertEqual([ways(program, output, 4) for output in "xyzu"], [[((), ("e", "e"))]] * 4)
        self.assertEqual([ways(program, "d", 7), ways(program, "e", 7), ways(program, "d", 4)],
                         [[((), ("d", "d"))], [((), ("e", "e"))], []])

    def test_a_choice_in_the_forms_of_a_merged_dict(self):
        program = mixed("x = look(a & keys(d), d) | e", "y = e | look(a & keys(d), d)", outputs="xy")
        self.assertEqual(ways(program, "x", 7), [(path("0L"), ("a", "e")), (path("0R"), ("d", "e"))])
        self.assertEqual(ways(program, "x", 3), [(path("0L"), ("a", "d")), (path("0R"), ("d", "d"))])
        self.assertEqual(ways(program, "y", 7), [((), ("e", "d"))])

    def test_left_ways_come_before_right_ones(self):
        for program in any_programs(random.Random(11), 150):
            for output in program.outputs:
                for pattern in range(1, program.patterns + 1):
                    paths = [found for found, _ in ways(program, output, pattern)]
                    self.assertEqual(paths, sorted(paths))
                    for found in paths:
                        numbers = [number for number, _ in found]
                        self.assertEqual(numbers, sorted(set(numbers), reverse=True))

    def test_new_at_each_call(self):
        program = two("c = a & b", outputs=["c", "a"])
        ways(program, "c", 3).clear()
        ways(program, "a", 3).append(None)
        self.assertEqual(ways(program, "c", 3), [(path("0L"), "a"), (path("0R"), "b")])
        self.assertEqual(ways(program, "a", 3), [((), "a")])
        self.assertEqual(ways(program=program, output="a", pattern=2), [])


class TestConditions(unittest.TestCase):
    def test_conditions(self):
        program = three("x = a & b & c")
        self.assertEqual(conditions(program, ()), [])
        self.assertEqual(
            conditions(program, path("1L", "0R")), [((3,), (4, 5, 6), "left"), ((1, 5), (2, 6), "right")]
        )
        self.assertEqual(conditions(path=path("1R"), program=program), [((3,), (4, 5, 6), "right")])

    def test_new_at_each_call(self):
        program = two("c = a & b")
        conditions(program, path("0L")).clear()
        self.assertEqual(conditions(program, path("0L")), [((1,), (2,), "left")])


class TestTaken(unittest.TestCase):
    def test_the_smaller_operand(self):
        program = two("c = a & b")
        for counts, side, end in (
            ((1, 2, 1), "left", "a"), ((2, 1, 1), "right", "b"), ((1, 1, 1), "right", "b"), ((0, 0, 5), "right", "b"),
            ((0, 1, 0), "left", "a"), ((GREAT - 1, GREAT, GREAT), "left", "a"), ((GREAT, GREAT, 0), "right", "b"),
            ((GREAT, GREAT - 1, 1), "right", "b"), ((0, GREAT, GREAT), "left", "a"),
        ):
            self.assertEqual(taken(program, "c", 3, counts), (((0, side),), end))
            self.assertIsNone(taken(program, "c", 1, counts))

    def test_a_choice_with_equal_sums(self):
        program = three("x = (a | b) & (a | c)")
        self.assertEqual(choices(program), [((2,), (4,))])
        self.assertEqual(taken(program, "x", 6, (9, 3, 9, 3, 9, 9, 9)), (path("0R"), "c"))
        self.assertEqual(taken(program, "x", 6, (9, 3, 9, 4, 9, 9, 9)), (path("0L"), "b"))
        program = two("c = (a | b) & (b | a)")
        self.assertEqual(taken(program, "c", 3, (5, 6, 7)), (path("0R"), "b"))

    def test_a_pattern_with_a_count_of_0(self):
        program = two("c = a & b")
        self.assertEqual(taken(program, "c", 3, (0, 0, 0)), (path("0R"), "b"))
        self.assertEqual(taken(counts=(0, 1, 0), pattern=3, output="c", program=program), (path("0L"), "a"))

    def check_at(self, program, counts):
        """Exactly one way has all its conditions satisfied, it is taken, and it has the end that is reached."""
        ends = ends_at(program, counts)
        for output, kind in zip(program.outputs, program.output_kinds):
            for pattern in range(1, program.patterns + 1):
                found = ways(program, output, pattern)
                way = taken(program, output, pattern, counts)
                self.assertIs(has_pattern(program, output, pattern), pattern in ends[output])
                if pattern not in ends[output]:
                    self.assertEqual([found, way], [[], None])
                else:
                    good = [one for one in found if satisfy(conditions(program, one[0]), counts)]
                    self.assertEqual(good, [way])
                    self.assertEqual(way[1], ends[output][pattern] if kind == "dict" else ends[output][pattern][0])

    def test_any_programs_at_all_small_counts(self):
        for program in any_programs(random.Random(12), 25, most_rows=3):
            for counts in small_counts(program.patterns, {1: 3, 3: 4, 7: 2}[program.patterns]):
                self.check_at(program, counts)

    def test_any_programs_at_great_counts(self):
        chance = random.Random(13)
        for program in any_programs(chance, 120, most_rows=6):
            for _ in range(3):
                high = chance.choice((3, 10, GREAT))
                counts = tuple(chance.choice((0, chance.randint(0, high), high)) for _ in range(program.patterns))
                self.check_at(program, counts)

    def test_runs_give_what_the_ways_tell(self):
        chance = random.Random(14)
        for program in any_programs(chance, 150, most_rows=6):
            counts = tuple(chance.choice((0, 1, 2, 3, chance.randint(0, 20))) for _ in range(program.patterns))
            contents = sample(program, counts)
            results = program.run(**contents)
            keys = [pattern for at, count in enumerate(counts) for pattern in [at + 1] * count]
            for output, kind in zip(program.outputs, program.output_kinds):
                for key, pattern in enumerate(keys):
                    way = taken(program, output, pattern, counts)
                    self.assertIs(key in results[output], way is not None)
                    if way is not None and kind == "set":
                        self.assertEqual(results[output].form_of(key), way[1])
                    elif way is not None:
                        form, source = way[1]
                        self.assertEqual(results[output].form_of(key), form)
                        self.assertEqual(results[output][key], program.inputs.index(source))

    def test_programs_with_four_choices_each(self):
        chance = random.Random(15)
        found = 0
        while found < 30:
            maker = Maker(chance)
            program = maker.program(["a", "b", "c"], [], most_rows=12)
            if maker.choices == 0:
                found += 1
                self.assertEqual(len(choices(program)), 4)
                self.check_at(program, tuple(chance.randint(0, 5) for _ in range(7)))


class TestErrors(unittest.TestCase):
    def setUp(self):
        self.program = two("c = a & b", "e = a", outputs=["c", "a"])

    def calls(self, output, pattern, counts=(1, 1, 1)):
        yield has_pattern, (self.program, output, pattern)
        yield ways, (self.program, output, pattern)
        yield taken, (self.program, output, pattern, counts)

    def refuse(self, error, fields, calls):
        for function, given in calls:
            with self.subTest(function=function.__name__, given=given[1:]), self.assertRaises(error) as caught:
                function(*given)
            self.assertEqual(list(vars(caught.exception)), list(fields))
            for name, value in fields.items():
                self.assertIs(getattr(caught.exception, name), value)

    def test_bad_output(self):
        for thing in ANY + ["b", "e", "q", "C", ["c"], ("c",), ("c", "a")]:
            if thing != "a":
                self.refuse(BadOutput, {"name": thing}, self.calls(thing, 3))
                self.refuse(BadOutput, {"name": thing}, self.calls(thing, 0, None))

    def test_bad_pattern(self):
        for thing in ANY + [True, False, 0, 4, -1, "1", (1,), [1], 8]:
            if not (type(thing) is int and 1 <= thing <= 3):
                self.refuse(BadPattern, {"value": thing}, self.calls("c", thing))
                self.refuse(BadPattern, {"value": thing}, self.calls("a", thing, None))

    def test_bad_counts(self):
        for thing in ANY + [
            [1, 1, 1], (1, 1), (1, 1, 1, 1), (1, 1, -1), (True, 1, 1), (1, False, 1), (1, 1, None), (1, "1", 1),
            (0, 0, GREAT + 1), ((1, 1, 1),), (1, [1], 1), {1: 1, 2: 1, 3: 1},
        ]:
            self.refuse(BadCounts, {}, [(taken, (self.program, "c", 3, thing))])
            self.refuse(BadCounts, {}, [(taken, (self.program, "c", 1, thing))])

    def test_the_first_error_is_raised(self):
        self.refuse(BadOutput, {"name": "e"}, [(taken, (self.program, "e", True, [1]))])
        self.refuse(BadPattern, {"value": True}, [(taken, (self.program, "c", True, [1]))])


if __name__ == "__main__":
    unittest.main()
