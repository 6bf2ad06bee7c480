"""Answers and verdicts checked: points 14, 15 and 17."""

import copy
import random
import unittest

from equalunlike.checker import is_answer, is_verdict
from equalunlike.comparing import compare
from equalunlike.errors import BadQuestion, Unlike
from equalunlike.programs import Program
from equalunlike.solving import solve
from equalunlike.ways import conditions, has_pattern, taken, ways
from anyprogram import INPUTS, Maker, ends_at, refutes, satisfy, small_counts
from samples import ANY
from spoiling import same, spoiled

LEFT = ((1,), (2,), "left")
RIGHT = ((1,), (2,), "right")
HUGE = 10 ** 400


def any_condition(chance, patterns):
    sides = [chance.choice(["first", "second", "both", "none", "none"]) for _ in range(patterns)]
    first = [at for at, side in enumerate(sides, start=1) if side in ("first", "both")]
    second = [at for at, side in enumerate(sides, start=1) if side in ("second", "both")]
    return (tuple(first), tuple(second), chance.choice(["left", "right"]))


def any_questions(seed, many):
    chance = random.Random(seed)
    for _ in range(many):
        patterns = chance.choice([1, 3, 3, 7, 7])
        given = [any_condition(chance, patterns) for _ in range(chance.randint(0, 8))]
        yield patterns, given, chance.randint(1, patterns)


def are_counts(patterns, thing):
    """Whether thing is a tuple of integers from 0 on, one for each pattern."""
    return type(thing) is tuple and len(thing) == patterns and all(type(item) is int and item >= 0 for item in thing)


def right_answer(patterns, given, pattern, answer):
    """Whether any value is an answer, in the words of the document."""
    if type(answer) is not tuple or len(answer) != 2 or type(answer[0]) is not str:
        return False
    word, told = answer
    if word == "possible":
        return are_counts(patterns, told) and told[pattern - 1] >= 1 and satisfy(given, told)
    return word == "impossible" and refutes(patterns, given, pattern, told)


def right_verdict(one, other, verdict):
    """Whether any value is a verdict on two programs that can be compared, in the words of the document."""
    if type(verdict) is not tuple or len(verdict) not in (2, 4) or type(verdict[0]) is not str:
        return False
    if len(verdict) == 2:
        return verdict[0] == "alike" and right_rows(one, other, verdict[1])
    word, counts, output, pattern = verdict
    if word != "differ" or not are_counts(one.patterns, counts) or type(output) is not str:
        return False
    if output not in one.outputs or type(pattern) is not int or not 1 <= pattern <= one.patterns:
        return False
    ends = [ends_at(program, counts)[output].get(pattern) for program in (one, other)]
    return counts[pattern - 1] > 0 and ends[0] != ends[1]


def right_rows(one, other, rows):
    wanted = []
    for output in one.outputs:
        for pattern in range(1, one.patterns + 1):
            if has_pattern(one, output, pattern) != has_pattern(other, output, pattern):
                return False
            for path, end in ways(one, output, pattern):
                for other_path, other_end in ways(other, output, pattern):
                    if end != other_end:
                        wanted.append((output, pattern, path, other_path))
    if type(rows) is not list or len(rows) != len(wanted):
        return False
    for row, place in zip(rows, wanted):
        if type(row) is not tuple or len(row) != 5 or not same(row[:4], place):
            return False
        both = conditions(one, place[2]) + conditions(other, place[3])
        if not refutes(one.patterns, both, place[1], row[4]):
            return False
    return True


class AnswerTest(unittest.TestCase):
    def accept(self, *question, answer):
        with self.subTest(question=question, answer=answer):
            before = copy.deepcopy((question, answer))
            self.assertIs(is_answer(*question, answer), True)
            self.assertTrue(same((*question, answer), (*before[0], before[1])))

    def refuse(self, *question, answer):
        with self.subTest(question=question, answer=answer):
            before = copy.deepcopy((question, answer))
            self.assertIs(is_answer(*question, answer), False)
            self.assertEqual((question, answer), before)


class TestPossible(AnswerTest):
    def test_counts_that_are_not_the_least(self):
        for counts in ((0, 1, 1), (0, 1, 5), (3, 4, 1), (0, HUGE, 1), (HUGE, HUGE + 1, HUGE)):
            self.accept(3, [LEFT], 3, answer=("possible", counts))
        for counts in ((0, 0, 1), (1, 1, 1), (5, 0, 2), (HUGE, HUGE, 1)):
            self.accept(3, [RIGHT], 3, answer=("possible", counts))

    def test_counts_that_break_a_condition(self):
        for counts in ((0, 0, 1), (1, 1, 1), (2, 1, 1), (HUGE, HUGE, 1)):
            self.refuse(3, [LEFT], 3, answer=("possible", counts))
            self.refuse(3, [RIGHT, LEFT], 3, answer=("possible", counts))
        for counts in ((0, 1, 1), (HUGE, HUGE + 1, 1)):
            self.refuse(3, [RIGHT], 3, answer=("possible", counts))
            self.refuse(3, [LEFT, RIGHT], 3, answer=("possible", counts))

    def test_counts_without_the_pattern_of_the_question(self):
        self.refuse(3, [LEFT], 3, answer=("possible", (0, 1, 0)))
        self.refuse(3, [LEFT], 1, answer=("possible", (0, 1, 1)))
        self.accept(3, [LEFT], 2, answer=("possible", (0, 1, 0)))
        self.refuse(3, [], 2, answer=("possible", (1, 0, 1)))

    def test_no_conditions(self):
        for patterns in (1, 3, 7):
            for pattern in range(1, patterns + 1):
                unit = tuple(int(place == pattern) for place in range(1, patterns + 1))
                self.accept(patterns, [], pattern, answer=("possible", unit))
                self.refuse(patterns, [], pattern, answer=("possible", (0,) * patterns))
                self.refuse(patterns, [], pattern, answer=("impossible", []))

    def test_too_few_and_too_many_counts(self):
        for counts in ((), (0, 1), (0, 1, 1, 0), (0, 1, 1, 1), (0, 1, 1) * 2):
            self.refuse(3, [LEFT], 3, answer=("possible", counts))
        self.refuse(3, [LEFT], 2, answer=("possible", (0, 1)))
        self.refuse(7, [LEFT], 2, answer=("possible", (0, 1, 0)))
        self.refuse(1, [], 1, answer=("possible", (1, 1, 1)))

    def test_counts_that_are_no_integers_from_zero_on(self):
        for bad in (-1, True, False, None, "1", "", (), [0], (1,), -HUGE):
            self.refuse(3, [], 3, answer=("possible", (bad, 1, 1)))
            self.refuse(3, [], 3, answer=("possible", (0, bad, 1)))
            self.refuse(3, [], 3, answer=("possible", (0, 1, bad)))

    def test_counts_of_another_kind(self):
        for bad in ([0, 1, 1], {0: 0, 1: 1, 2: 1}, "011", None, 1, True, 11, [(0, 1, 1)], ((0, 1, 1),)):
            self.refuse(3, [LEFT], 3, answer=("possible", bad))

    def test_a_pattern_on_both_sides_counts_nothing(self):
        both = ((1, 3), (2, 3), "left")
        self.accept(3, [both], 3, answer=("possible", (0, 1, HUGE)))
        self.refuse(3, [both], 3, answer=("possible", (0, 0, 9)))


class TestImpossible(AnswerTest):
    circle = [((1,), (2,), "left"), ((2,), (3,), "left"), ((3,), (1,), "left")]

    def test_multipliers_of_any_size(self):
        for times in (1, 2, 7, HUGE):
            self.accept(3, self.circle, 1, answer=("impossible", [times] * 3))
            self.accept(3, [LEFT, RIGHT], 3, answer=("impossible", [times, times]))
            self.accept(1, [((), (), "left")], 1, answer=("impossible", [times]))
            self.accept(3, [((), (2,), "right")], 2, answer=("impossible", [times]))

    def test_more_of_the_conditions_with_the_side_right(self):
        # The weights may be below 0.
        self.accept(3, [((), (1, 2, 3), "right")], 2, answer=("impossible", [1]))
        self.accept(3, [LEFT, RIGHT, ((), (3,), "right")], 1, answer=("impossible", [1, 1, 5]))

    def test_a_weight_above_zero(self):
        for multipliers in ([1, 1, 0], [1, 0, 1], [2, 1, 1], [1, 1, 2], [HUGE, HUGE, HUGE + 1]):
            self.refuse(3, self.circle, 1, answer=("impossible", multipliers))
        for multipliers in ([1, 0], [0, 1], [2, 1], [1, 2]):
            self.refuse(3, [LEFT, RIGHT], 3, answer=("impossible", multipliers))
        # A weight above 0 of another pattern than that of the question.
        self.refuse(3, [((1,), (2,), "left")], 1, answer=("impossible", [1]))

    def test_weights_that_say_nothing(self):
        self.refuse(3, self.circle, 1, answer=("impossible", [0, 0, 0]))
        self.refuse(3, [], 1, answer=("impossible", []))
        self.refuse(3, [RIGHT, ((2,), (1,), "right")], 3, answer=("impossible", [1, 1]))
        # The weight below 0 is not that of the question.
        one = [((), (2,), "right")]
        self.refuse(3, one, 1, answer=("impossible", [1]))
        self.refuse(3, one, 3, answer=("impossible", [1]))
        self.accept(3, one, 2, answer=("impossible", [1]))
        # The only condition with the side left has the multiplier 0.
        self.refuse(3, [((), (), "left"), RIGHT, ((2,), (1,), "right")], 3, answer=("impossible", [0, 1, 1]))
        self.accept(3, [((), (), "left"), RIGHT, ((2,), (1,), "right")], 3, answer=("impossible", [1, 1, 1]))

    def test_a_pattern_on_both_sides_counts_nothing(self):
        self.accept(3, [((1, 2), (1, 2), "left")], 3, answer=("impossible", [1]))
        self.accept(3, [((1, 2, 3), (1, 3), "left")], 3, answer=("impossible", [1]))
        self.refuse(3, [((1, 3), (1, 2, 3), "left")], 3, answer=("impossible", [1]))
        # The weight of 3 is 0, not below.
        self.refuse(3, [((2, 3), (3,), "left"), ((3,), (3,), "right")], 3, answer=("impossible", [0, 1]))

    def test_the_signs_of_right(self):
        # Of RIGHT 1 counts 1 and 2 counts -1.
        self.accept(3, [RIGHT, ((1,), (), "left")], 2, answer=("impossible", [1, 1]))
        self.refuse(3, [RIGHT, ((2,), (), "left")], 2, answer=("impossible", [1, 1]))
        self.accept(3, [RIGHT, ((2,), (), "left")], 2, answer=("impossible", [0, 1]))

    def test_too_few_and_too_many_multipliers(self):
        for multipliers in ([], [1, 1], [1, 1, 1, 1], [1, 1, 1, 0]):
            self.refuse(3, self.circle, 1, answer=("impossible", multipliers))
        self.refuse(3, [], 1, answer=("impossible", [1]))

    def test_multipliers_that_are_no_integers_from_zero_on(self):
        for bad in (True, None, "1", (1,), [1], -1, -HUGE):
            for at in range(3):
                multipliers = [1, 1, 1]
                multipliers[at] = bad
                self.refuse(3, self.circle, 1, answer=("impossible", multipliers))
        self.refuse(3, [((), (), "left"), LEFT], 1, answer=("impossible", [1, False]))
        self.accept(3, [((), (), "left"), LEFT], 1, answer=("impossible", [1, 0]))
        self.refuse(3, [((), (), "left"), LEFT, RIGHT], 1, answer=("impossible", [1, -1, -1]))

    def test_multipliers_of_another_kind(self):
        for bad in ((1, 1, 1), {0: 1, 1: 1, 2: 1}, "111", 3, None, True, [[1, 1, 1]], ([1, 1, 1],)):
            self.refuse(3, self.circle, 1, answer=("impossible", bad))


class TestAnyAnswer(AnswerTest):
    def test_the_words_exchanged(self):
        self.refuse(3, [LEFT], 3, answer=("impossible", (0, 1, 1)))
        self.refuse(3, [LEFT, RIGHT], 3, answer=("possible", [1, 1]))
        self.refuse(1, [((), (), "left")], 1, answer=("possible", (1,)))
        for word in ("Possible", "possible ", "", "imp", "left", None, True, 1, ["possible"], ("possible",)):
            self.refuse(3, [LEFT], 3, answer=(word, (0, 1, 1)))
            self.refuse(3, [LEFT, RIGHT], 3, answer=(word, [1, 1]))

    def test_tuples_of_another_length(self):
        for answer in (
            (), ("possible",), ("impossible",), ("possible", (0, 1, 1), ()), ("possible", (0, 1, 1), (0, 1, 1)),
            ((0, 1, 1),), ("possible", 0, 1, 1), ("impossible", [1], 3),
        ):
            self.refuse(3, [LEFT], 3, answer=answer)

    def test_any_value(self):
        for thing in [*ANY, ["possible", (0, 1, 1)], {"possible": (0, 1, 1)}, "possible", ("x", "y")]:
            self.refuse(3, [LEFT], 3, answer=thing)
            self.refuse(3, [LEFT, RIGHT], 3, answer=thing)
            self.refuse(3, [LEFT], 3, answer=("possible", thing))
            if thing != []:
                self.refuse(1, [], 1, answer=("impossible", thing))
            if thing != "possible":
                self.refuse(3, [LEFT], 3, answer=(thing, (0, 1, 1)))

    def test_each_answer_of_solve_and_what_is_nearly_one(self):
        for question in any_questions(40, 400):
            answer = solve(*question)
            self.accept(*question, answer=answer)
            for other in spoiled(answer):
                self.assertIs(is_answer(*question, other), right_answer(*question, other), (question, other))

    def test_answers_of_exactly_one_kind(self):
        for patterns, given, pattern in any_questions(41, 400):
            word, told = solve(patterns, given, pattern)
            small = [counts for counts in small_counts(patterns, 5 if patterns < 7 else 2)]
            for counts in small:
                accepted = is_answer(patterns, given, pattern, ("possible", counts))
                self.assertIs(accepted, counts[pattern - 1] > 0 and satisfy(given, counts))
                self.assertFalse(accepted and word == "impossible")
            if word == "possible" and len(given) <= 3:
                for multipliers in small_counts(len(given), 4) if given else [()]:
                    answer = ("impossible", list(multipliers))
                    self.assertIs(is_answer(patterns, given, pattern, answer), False)

    def test_sums_of_two_answers_are_answers(self):
        chance = random.Random(42)
        found = {"possible": 0, "impossible": 0}
        for patterns, given, pattern in any_questions(43, 300):
            word, told = solve(patterns, given, pattern)
            kind = type(told)
            times = chance.choice([2, 3, HUGE])
            many = kind(times * item for item in told)
            self.accept(patterns, given, pattern, answer=(word, many))
            self.accept(patterns, given, pattern, answer=(word, kind(a + b for a, b in zip(told, many))))
            found[word] += 1
        self.assertGreater(min(found.values()), 30)

    def test_sums_of_unlike_answers(self):
        given = [((1, 2), (3,), "left"), ((3,), (4, 5), "left")]
        accepted = [counts for counts in small_counts(7, 4) if is_answer(7, given, 4, ("possible", counts))]
        self.assertGreater(len(accepted), 5)
        for one in accepted:
            for other in accepted:
                self.accept(7, given, 4, answer=("possible", tuple(a + b for a, b in zip(one, other))))

    def test_by_name(self):
        self.assertIs(is_answer(answer=("possible", (0, 1, 1)), pattern=3, conditions=[LEFT], patterns=3), True)


class TestBadQuestion(unittest.TestCase):
    def test_whatever_the_answer_is(self):
        for answer in [("possible", (0, 1, 1)), ("impossible", []), None, [], "possible", ((),)]:
            for question in (
                (2, [], 1), (True, [], 1), ("3", [], 1), (None, [], 1), ([3], [], 1), (3, (), 1), (3, None, 1),
                (3, {}, 1), (3, "", 1), (3, [LEFT] * 9, 1), (3, [LEFT], 0), (3, [LEFT], 4), (3, [LEFT], True),
                (3, [LEFT], None), (3, [LEFT], (1,)), (1, [LEFT], 1), (3, [list(LEFT)], 1), (3, [LEFT[:2]], 1),
                (3, [((1,), (2,), "middle")], 1), (3, [((2, 1), (3,), "left")], 1), (3, [((1, 1), (), "left")], 1),
                (3, [((True,), (2,), "left")], 1), (3, [([1], (2,), "left")], 1), (3, [LEFT, None], 1),
            ):
                with self.subTest(question=question, answer=answer):
                    self.assertRaises(BadQuestion, is_answer, *question, answer)

    def test_any_value(self):
        for thing in ANY:
            if type(thing) is not int or thing not in (1, 3, 7):
                self.assertRaises(BadQuestion, is_answer, thing, [], 1, ("possible", (1,)))
            if thing != []:
                self.assertRaises(BadQuestion, is_answer, 3, thing, 1, ("possible", (1, 0, 0)))
            self.assertRaises(BadQuestion, is_answer, 3, [thing], 1, ("possible", (1, 0, 0)))
            if type(thing) is not int or thing not in (1, 2, 3):
                self.assertRaises(BadQuestion, is_answer, 3, [], thing, ("possible", (1, 1, 1)))


def two(*rows, outputs=("c",)):
    return Program(*rows, sets=["a", "b"], outputs=outputs)


def three(*rows, outputs=("x",)):
    return Program(*rows, sets=["a", "b", "c"], outputs=tuple(outputs))


class VerdictTest(unittest.TestCase):
    def accept(self, one, other, verdict):
        with self.subTest(verdict=verdict):
            before = copy.deepcopy(verdict)
            self.assertIs(is_verdict(one, other, verdict), True)
            self.assertTrue(same(verdict, before))

    def refuse(self, one, other, verdict):
        with self.subTest(verdict=verdict):
            self.assertIs(is_verdict(one, other, verdict), False)


class TestDiffer(VerdictTest):
    def test_counts_that_are_not_the_least(self):
        one, other = two("c = a & b", "c |= a"), two("c = a | a & b")
        for counts in ((0, 0, 1), (5, 5, 2), (3, 0, HUGE), (HUGE, HUGE, HUGE)):
            self.accept(one, other, ("differ", counts, "c", 3))
        for counts in ((0, 1, 1), (3, 5, 2), (HUGE, HUGE + 1, 1)):
            self.refuse(one, other, ("differ", counts, "c", 3))

    def test_a_pattern_at_which_both_agree(self):
        one, other = two("c = a & b", "c |= a"), two("c = a | a & b")
        self.refuse(one, other, ("differ", (1, 0, 1), "c", 1))
        self.refuse(one, other, ("differ", (0, 1, 1), "c", 2))
        self.refuse(one, other, ("differ", (1, 1, 1), "c", 2))

    def test_another_output_or_pattern_at_which_they_differ(self):
        one = Program("c = a | b", "e = b | a", "f = a", sets=["a", "b"], outputs=["f", "e", "c"])
        other = Program("c = b | a", "e = a | b", "f = a", sets=["a", "b"], outputs=["f", "e", "c"])
        self.accept(one, other, ("differ", (0, 0, 1), "e", 3))
        self.accept(one, other, ("differ", (0, 0, 1), "c", 3))
        self.refuse(one, other, ("differ", (0, 0, 1), "f", 3))
        one, other = three("x = a"), three("x = b")
        for pattern in (1, 2, 3, 5, 6, 7):
            self.accept(one, other, ("differ", (1,) * 7, "x", pattern))
        self.refuse(one, other, ("differ", (1,) * 7, "x", 4))

    def test_just_one_has_the_pattern(self):
        for one, other in ((two("c = a"), two("c = a | b")), (two("c = a | b"), two("c = a"))):
            self.accept(one, other, ("differ", (0, 1, 0), "c", 2))
            self.refuse(one, other, ("differ", (1, 0, 1), "c", 2))
            self.refuse(one, other, ("differ", (1, 1, 1), "c", 1))
            self.refuse(one, other, ("alike", []))

    def test_a_pattern_that_does_not_occur(self):
        one, other = two("c = a | b"), two("c = b | a")
        self.accept(one, other, ("differ", (1, 1, 1), "c", 3))
        self.refuse(one, other, ("differ", (1, 1, 0), "c", 3))
        self.refuse(one, other, ("differ", (0, 0, 0), "c", 3))

    def test_forms_and_values_of_dicts(self):
        one = Program("x = d | e", dicts=["d", "e"], outputs=["x"])
        other = Program("x = look(keys(d | e), e | d)", dicts=["d", "e"], outputs=["x"])
        self.accept(one, other, ("differ", (0, 0, 1), "x", 3))
        self.refuse(one, other, ("differ", (1, 1, 1), "x", 1))
        self.refuse(one, one, ("differ", (0, 0, 1), "x", 3))

    def test_wrong_parts(self):
        one, other = two("c = a | b"), two("c = b | a")
        for counts in ((0, 1), (0, 0, 1, 0), [0, 0, 1], (0, 0, True), (False, 0, 1), (-1, 0, 1), (0, 0, -1), "001",
                       (0, None, 1), None, {}, (0, "0", 1)):
            self.refuse(one, other, ("differ", counts, "c", 3))
        for output in ("a", "e", "", "C", None, 0, True, ["c"], ("c",), {"c": 1}, ("c", "c")):
            self.refuse(one, other, ("differ", (0, 0, 1), output, 3))
        for pattern in (0, 4, -1, True, "3", None, (3,), [3]):
            self.refuse(one, other, ("differ", (1, 1, 1), "c", pattern))
        for word in ("alike", "Differ", "", None, 1, True, ["differ"]):
            self.refuse(one, other, (word, (0, 0, 1), "c", 3))

    def test_true_is_not_the_pattern_one(self):
        one, other = two("c = a"), two("c = b")
        self.accept(one, other, ("differ", (1, 0, 0), "c", 1))
        self.refuse(one, other, ("differ", (1, 0, 0), "c", True))
        self.refuse(one, other, ("differ", (True, 0, 0), "c", 1))


class TestAlike(VerdictTest):
    one = two("c = a & b")
    left, right = ((0, "left"),), ((0, "right"),)

    def rows(self):
        return [
            ("c", 3, self.left, self.right, [1, 1]),
            ("c", 3, self.right, self.left, [1, 1]),
        ]

    def changed(self, at, place, item):
        rows = self.rows()
        row = list(rows[at])
        row[place] = item
        rows[at] = tuple(row)
        return ("alike", rows)

    def test_any_multipliers_that_refute(self):
        self.accept(self.one, self.one, ("alike", self.rows()))
        self.accept(self.one, self.one, compare(self.one, self.one))
        for times in (2, 9, HUGE):
            self.accept(self.one, self.one, self.changed(0, 4, [times, times]))

    def test_multipliers_that_do_not_refute(self):
        for multipliers in (
            [], [1], [1, 1, 1], [1, 0], [0, 1], [0, 0], [2, 1], [1, 2], (1, 1), [True, True], [-1, -1], None,
        ):
            for at in range(2):
                self.refuse(self.one, self.one, self.changed(at, 4, multipliers))

    def test_rows_that_are_lacking_doubled_or_in_another_order(self):
        rows = self.rows()
        for other in ([], rows[:1], rows[1:], rows[::-1], rows + rows[:1], [rows[0]] * 2, rows * 2, rows + [None],
                      [None] + rows, tuple(rows), {0: rows[0], 1: rows[1]}, [list(row) for row in rows], None,
                      "rows"):
            self.refuse(self.one, self.one, ("alike", other))

    def test_other_places(self):
        for at in range(2):
            for output in ("a", "b", "", None, 0, ["c"]):
                self.refuse(self.one, self.one, self.changed(at, 0, output))
            for pattern in (1, 2, 4, "3", None, (3,)):
                self.refuse(self.one, self.one, self.changed(at, 1, pattern))
            for path in ((), ((0, "left"), (0, "left")), ((1, "left"),), ((False, "left"),), [(0, "left")],
                         ([0, "left"],), (0, "left"), "left", None, ((0, "middle"),)):
                for place in (2, 3):
                    self.refuse(self.one, self.one, self.changed(at, place, path))
        self.refuse(self.one, self.one, self.changed(0, 3, self.left))
        self.refuse(self.one, self.one, self.changed(0, 2, self.right))

    def test_true_is_not_one_in_paths(self):
        program = three("y = a & b", "x = (a | b | c) & (c | b | a) - (b - a - c | c - a - b)")
        word, rows = compare(program, program)
        self.assertEqual(word, "alike")
        self.accept(program, program, (word, rows))
        self.assertTrue(any(row[2][0][0] == 1 for row in rows))
        for at, row in enumerate(rows):
            for other in (
                (*row[:2], ((True, row[2][0][1]), *row[2][1:]), *row[3:]),
                (*row[:3], ((True, row[3][0][1]), *row[3][1:]), row[4]),
            ):
                self.refuse(program, program, (word, [*rows[:at], other, *rows[at + 1:]]))

    def test_programs_that_differ_are_not_alike(self):
        other = two("c = a | a & b")
        self.refuse(two("c = a & b", "c |= a"), other, ("alike", []))
        self.refuse(self.one, two("c = b & a"), ("alike", self.rows()))
        self.refuse(self.one, two("c = b & a"), ("alike", []))

    def test_a_pattern_that_one_lacks(self):
        for one, other in ((two("c = a & b"), two("c = a - a")), (two("c = a & b | a"), two("c = a & b"))):
            for first, second in ((one, other), (other, one)):
                self.refuse(first, second, ("alike", []))
                self.refuse(first, second, ("alike", self.rows()))
                self.refuse(first, second, ("alike", [("c", 3, None, None, [])]))
                self.refuse(first, second, ("alike", [("c", 1, None, None, [])]))

    def test_rows_of_some_outputs_only(self):
        program = two("c = a & b", "e = c", outputs=["c", "e"])
        word, rows = compare(program, program)
        self.accept(program, program, (word, rows))
        self.assertEqual([row[0] for row in rows], ["c", "c", "e", "e"])
        for other in (rows[:2], rows[2:], rows[2:] + rows[:2]):
            self.refuse(program, program, (word, other))


class TestAnyVerdict(VerdictTest):
    def test_any_value(self):
        one, other = two("c = a | b"), two("c = b | a")
        for thing in [*ANY, ["alike", []], ("alike",), ("alike", [], []), {"alike": []}, "alike", ("differ",),
                      ["differ", (0, 0, 1), "c", 3], ("differ", (0, 0, 1), "c"), ("differ", (0, 0, 1), "c", 3, 3),
                      ("alike", (0, 0, 1), "c", 3), ("differ", []), ("possible", (0, 0, 1))]:
            self.refuse(one, other, thing)
            if thing != ("alike", []):
                self.refuse(one, one, thing)

    def test_each_verdict_of_compare_and_what_is_nearly_one(self):
        chance = random.Random(44)
        found = {"alike": 0, "differ": 0}
        while min(found.values()) < 25:
            sets, names = chance.choice(INPUTS)
            outputs = [[*sets, *names][-1]]
            one = Maker(chance).program(sets, names, outputs=outputs)
            other = one if chance.random() < 0.4 else Maker(chance).program(sets, names, outputs=outputs)
            if one.output_kinds != other.output_kinds:
                continue
            verdict = compare(one, other)
            found[verdict[0]] += 1
            self.accept(one, other, verdict)
            if len(str(verdict)) < 400:
                for nearly in spoiled(verdict):
                    self.assertIs(is_verdict(one, other, nearly), right_verdict(one, other, nearly), nearly)

    def test_all_small_counts(self):
        chance = random.Random(45)
        for _ in range(40):
            one, other = (Maker(chance).program(["a", "b"], [], outputs=["a"]) for _ in range(2))
            for counts in small_counts(3, 4):
                for pattern in (1, 2, 3):
                    verdict = ("differ", counts, "a", pattern)
                    self.assertIs(is_verdict(one, other, verdict), right_verdict(one, other, verdict), verdict)

    def test_verdicts_and_ways_taken(self):
        one, other = two("c = a & b", "c |= a"), two("c = a | a & b")
        for counts in small_counts(3, 6):
            ends = [taken(program, "c", 3, counts)[1] for program in (one, other)]
            wanted = counts[2] > 0 and ends[0] != ends[1]
            self.assertIs(is_verdict(one, other, ("differ", counts, "c", 3)), wanted)

    def test_by_name(self):
        one, other = two("c = a | b"), two("c = b | a")
        self.assertIs(is_verdict(verdict=("differ", (0, 0, 1), "c", 3), other=other, one=one), True)


class TestUnlike(unittest.TestCase):
    def test_whatever_the_verdict_is(self):
        one = two("c = a")
        for other in (
            three("x = a"), Program("c = a", sets=["b", "a"], outputs=["c"]), two("c = a", outputs=["a"]),
            Program("c = a", sets=["a"], dicts=["b"], outputs=["c"]), two("c = a", outputs=["c", "a"]),
            Program("c = d", sets=["a"], dicts=["d"], outputs=["c"]), None, "c = a", [],
        ):
            for verdict in (("alike", []), ("differ", (0, 0, 1), "c", 3), None, [], "alike", ()):
                self.assertRaises(Unlike, is_verdict, one, other, verdict)
                self.assertRaises(Unlike, is_verdict, other, one, verdict)


if __name__ == "__main__":
    unittest.main()
