"""Conditions, questions, answers and least solutions: points 14 to 16."""

import itertools
import random
import time
import unittest

from equalunlike.errors import BadQuestion
from equalunlike.solving import solve
from anyprogram import refutes, satisfy, small_counts
from samples import ANY

SMALL = {1: list(small_counts(1, 12)), 3: list(small_counts(3, 12)), 7: list(small_counts(7, 5))}


def first_small(patterns, conditions, pattern):
    """The least solution with a small sum, found by trying all of them."""
    for counts in SMALL[patterns]:
        if counts[pattern - 1] > 0 and satisfy(conditions, counts):
            return counts
    return None


def any_condition(chance, patterns, share):
    """Each pattern stands on one side with this chance, and now and then on both."""
    first, second = [], []
    for pattern in range(1, patterns + 1):
        side = chance.random()
        if side < share / 2 or side > 0.97:
            first.append(pattern)
        if share / 2 <= side < share or side > 0.97:
            second.append(pattern)
    return (tuple(first), tuple(second), chance.choice(["left", "right"]))


class AnswerTest(unittest.TestCase):
    def check(self, patterns, conditions, pattern):
        """Solves a question; the answer is right, and least as far as that can be tried."""
        before = repr(conditions)
        word, told = answer = solve(patterns, conditions, pattern)
        self.assertEqual(repr(conditions), before)
        self.assertIs(type(answer), tuple)
        if word == "possible":
            self.assertIs(type(told), tuple)
            self.assertEqual([type(count) for count in told], [int] * patterns)
            self.assertTrue(min(told) >= 0 and told[pattern - 1] >= 1)
            self.assertTrue(satisfy(conditions, told))
        else:
            self.assertEqual(word, "impossible")
            self.assertTrue(refutes(patterns, conditions, pattern, told), (patterns, conditions, pattern, told))
        least = first_small(patterns, conditions, pattern)
        if least is not None:
            self.assertEqual(answer, ("possible", least), (patterns, conditions, pattern))
        elif word == "possible":
            self.assertGreater(sum(told), sum(SMALL[patterns][-1]))
        return answer


class TestSolve(AnswerTest):
    def test_the_examples_of_the_document(self):
        self.assertEqual(solve(3, [((1,), (2,), "left")], 3), ("possible", (0, 1, 1)))
        self.assertEqual(solve(1, [((), (), "left")], 1)[0], "impossible")

    def test_no_conditions(self):
        for patterns in (1, 3, 7):
            for pattern in range(1, patterns + 1):
                unit = tuple(int(place == pattern) for place in range(1, patterns + 1))
                self.assertEqual(self.check(patterns, [], pattern), ("possible", unit))

    def test_one_pattern(self):
        for first, second, side, wanted in (
            ((), (1,), "left", "possible"), ((), (1,), "right", "impossible"), ((1,), (), "left", "impossible"),
            ((1,), (), "right", "possible"), ((1,), (1,), "left", "impossible"), ((1,), (1,), "right", "possible"),
            ((), (), "left", "impossible"), ((), (), "right", "possible"),
        ):
            for many in (1, 2, 8):
                answer = self.check(1, [(first, second, side)] * many, 1)
                self.assertEqual(answer[0], wanted)
                if wanted == "possible":
                    self.assertEqual(answer[1], (1,))

    def test_all_pairs_of_conditions_over_one_pattern(self):
        parts = [(), (1,)]
        each = list(itertools.product(parts, parts, ["left", "right"]))
        for many in range(4):
            for conditions in itertools.product(each, repeat=many):
                self.check(1, list(conditions), 1)

    def test_all_pairs_of_conditions_over_three_patterns(self):
        parts = [part for many in range(4) for part in itertools.combinations((1, 2, 3), many)]
        each = [item for item in itertools.product(parts, parts, ["left", "right"]) if not set(item[0]) & set(item[1])]
        for pair in itertools.product(each, repeat=2):
            self.check(3, list(pair), 3)

    def test_any_questions(self):
        chance = random.Random(20)
        found = {"possible": 0, "impossible": 0}
        for _ in range(2500):
            patterns = chance.choice([1, 3, 3, 3, 7, 7, 7, 7])
            share = chance.choice([0.3, 0.6, 0.9])
            conditions = [any_condition(chance, patterns, share) for _ in range(chance.randint(0, 8))]
            found[self.check(patterns, conditions, chance.randint(1, patterns))[0]] += 1
        self.assertGreater(min(found.values()), 300)

    def test_eight_conditions_over_seven_patterns(self):
        chance = random.Random(21)
        for _ in range(400):
            conditions = [any_condition(chance, 7, chance.choice([0.6, 0.8, 0.95])) for _ in range(8)]
            self.check(7, conditions, chance.randint(1, 7))

    def test_the_smallest_sum_before_the_least_tuple(self):
        conditions = [((), (1, 2, 3), "left"), ((2,), (1, 3), "left")]
        self.assertEqual(self.check(3, conditions, 3), ("possible", (0, 0, 1)))
        self.assertEqual(self.check(3, conditions, 1), ("possible", (1, 0, 0)))
        self.assertEqual(self.check(3, [((3,), (1, 2), "left")], 3), ("possible", (0, 2, 1)))
        self.assertEqual(self.check(3, [((3,), (1,), "left")], 2), ("possible", (1, 1, 0)))
        # (0, 3, 0, ..) would be a lesser tuple, with a greater sum.
        self.assertEqual(self.check(7, [((4,), (1,), "left"), ((4,), (2, 3), "left")], 4)[1], (2, 0, 2, 1, 0, 0, 0))

    def test_the_pattern_occurs(self):
        self.assertEqual(self.check(3, [((1,), (2,), "right")], 2), ("possible", (1, 1, 0)))
        self.assertEqual(self.check(3, [((1,), (2,), "right")], 3), ("possible", (0, 0, 1)))

    def test_patterns_on_both_sides_count_nothing(self):
        self.assertEqual(self.check(3, [((1, 3), (2, 3), "left")], 3), ("possible", (0, 1, 1)))
        self.assertEqual(self.check(3, [((1, 2, 3), (1, 2, 3), "left")], 3)[0], "impossible")
        self.assertEqual(self.check(3, [((1, 2, 3), (1, 2, 3), "right")], 2), ("possible", (0, 1, 0)))

    def test_conditions_without_patterns_on_one_side(self):
        self.assertEqual(self.check(3, [((), (2,), "left")], 1), ("possible", (1, 1, 0)))
        self.assertEqual(self.check(3, [((2,), (), "left")], 1)[0], "impossible")
        self.assertEqual(self.check(3, [((), (2,), "right")], 1), ("possible", (1, 0, 0)))
        self.assertEqual(self.check(3, [((), (2,), "right")], 2)[0], "impossible")
        self.assertEqual(self.check(3, [((), (), "right")], 2), ("possible", (0, 1, 0)))


class TestChains(AnswerTest):
    def test_each_count_is_greater_than_the_sum_of_all_before(self):
        for order in itertools.permutations(range(1, 8)):
            if order[1:4] in ((1, 2, 3), (7, 6, 5), (4, 1, 6), (2, 7, 3), (5, 3, 1)):
                conditions = [(tuple(sorted(order[:at])), (order[at],), "left") for at in range(1, 7)]
                for turned in (conditions, conditions[::-1]):
                    word, counts = solve(7, turned, order[0])
                    self.assertEqual(word, "possible")
                    self.assertEqual([counts[pattern - 1] for pattern in order], [1, 2, 4, 8, 16, 32, 64])

    def test_chains_over_three_patterns(self):
        for order in itertools.permutations((1, 2, 3)):
            conditions = [((order[0],), (order[1],), "left"), (tuple(sorted(order[:2])), (order[2],), "left")]
            counts = self.check(3, conditions, order[0])[1]
            self.assertEqual([counts[pattern - 1] for pattern in order], [1, 2, 4])

    def test_a_chain_that_bites_its_tail(self):
        order = (3, 1, 7, 2, 6, 4, 5)
        conditions = [(tuple(sorted(order[:at])), (order[at],), "left") for at in range(1, 7)]
        closing = ((order[6],), order[0:1], "left")
        answer = self.check(7, conditions + [closing], order[0])
        self.assertEqual(answer[0], "impossible")
        self.assertEqual(len(answer[1]), 7)

    def test_solutions_with_great_sums(self):
        conditions = [
            ((1, 5, 6), (2, 7), "left"), ((4, 5), (1, 3, 6, 7), "right"), ((1, 3, 4, 6), (5,), "left"),
            ((1, 2, 3, 5), (4, 6, 7), "left"), ((3, 5, 6), (1, 2, 7), "right"), ((1, 3, 4, 7), (2, 6), "left"),
            ((2, 3, 6), (1, 5, 7), "left"), ((3, 4, 5), (1, 2, 6), "right"),
        ]
        word, counts = self.check(7, conditions, 1)
        self.assertEqual([word, sum(counts)], ["possible", 391])


    def test_least_fractions_that_are_far_from_the_least_whole_numbers(self):
        for conditions, pattern, counts in (
            ([((2, 4), (1, 3, 5), "left"), ((2, 6), (3,), "right"), ((1, 2), (3, 4, 6), "left"),
              ((2, 5), (1, 3, 4), "left"), ((1, 6, 7), (2, 3, 4, 5), "left"), ((4, 5), (1, 2, 6, 7), "left"),
              ((3, 6), (1, 2, 4), "left"), ((5, 7), (2, 4, 6), "right")], 3, (1, 1, 1, 2, 2, 0, 3)),
            ([((1, 2, 7), (5, 6), "right"), ((1, 3, 6), (2, 5), "right"), ((2, 3, 4), (1, 5, 6, 7), "right"),
              ((1, 6), (2, 3, 5, 7), "left"), ((3, 4, 7), (2, 6), "left"), ((1, 3, 4, 5), (2, 6, 7), "right"),
              ((4, 6, 7), (2, 3, 5), "right"), ((3, 4), (2, 5, 7), "left")], 6, (2, 3, 0, 3, 1, 2, 1)),
            ([((6,), (2, 3, 7), "left"), ((4, 5), (1, 7), "right"), ((1, 5, 7), (2, 3, 6), "right"),
              ((1, 4), (2, 3, 5, 7), "right"), ((3, 5), (2, 6, 7), "left"), ((2, 3, 5, 6), (4, 7), "right"),
              ((3, 4), (2, 6, 7), "right"), ((3, 4, 6, 7), (1, 2, 5), "right")], 1, (1, 1, 0, 3, 2, 1, 1)),
        ):
            self.assertEqual(self.check(7, conditions, pattern), ("possible", counts))

    def test_in_reasonable_time(self):
        chance = random.Random(23)
        start = time.perf_counter()
        for _ in range(500):
            solve(7, [any_condition(chance, 7, 0.9) for _ in range(8)], chance.randint(1, 7))
        self.assertLess(time.perf_counter() - start, 20)


class TestRefuting(AnswerTest):
    def refute(self, patterns, conditions, pattern):
        word, multipliers = self.check(patterns, conditions, pattern)
        self.assertEqual(word, "impossible")
        return multipliers

    def test_a_circle(self):
        conditions = [((1,), (2,), "left"), ((2,), (3,), "left"), ((3,), (1,), "left")]
        multipliers = self.refute(3, conditions, 1)
        self.assertTrue(multipliers[0] == multipliers[1] == multipliers[2] > 0)

    def test_a_condition_and_its_opposite(self):
        for pattern in (1, 2, 3):
            multipliers = self.refute(3, [((1,), (2, 3), "left"), ((1,), (2, 3), "right")], pattern)
            self.assertEqual(multipliers[0], multipliers[1])

    def test_without_a_condition_with_the_side_left(self):
        multipliers = self.refute(3, [((), (2,), "right")], 2)
        self.assertGreater(multipliers[0], 0)
        self.refute(3, [((1,), (2, 3), "right"), ((2,), (1, 3), "right")], 3)
        self.refute(7, [((1,), (2, 7), "right"), ((2,), (3,), "right"), ((3,), (1, 4), "right")], 7)
        self.refute(7, [((1,), (2, 7), "right"), ((2,), (3,), "right"), ((3,), (1, 4), "right")], 4)

    def test_only_conditions_with_the_side_right(self):
        chance = random.Random(22)
        found = 0
        for _ in range(400):
            conditions = [(*any_condition(chance, 7, 0.8)[:2], "right") for _ in range(8)]
            found += self.check(7, conditions, chance.randint(1, 7))[0] == "impossible"
        self.assertGreater(found, 50)

    def test_great_multipliers(self):
        conditions = [
            ((2, 3, 4, 5, 6, 7), (1,), "left"), ((1,), (2, 3), "left"), ((2,), (4, 5, 6), "left"),
            ((3,), (4, 5), "left"), ((4,), (5,), "right"), ((5,), (6,), "right"), ((7,), (1, 2), "left"),
        ]
        self.refute(7, conditions, 4)

    def test_multipliers_are_new_at_each_call(self):
        conditions = [((), (), "left"), ((1,), (2,), "left")]
        first = self.refute(3, conditions, 1)
        first.append("more")
        self.assertEqual(len(self.refute(3, conditions, 1)), 2)


class TestBadQuestion(unittest.TestCase):
    def refuse(self, *question):
        with self.subTest(question), self.assertRaises(BadQuestion):
            solve(*question)

    def test_the_number_of_patterns(self):
        for thing in ANY + [2, 4, 5, 6, 8, 0, -1, True, False, None, "3", (3,), [7]]:
            if type(thing) is not int or thing not in (1, 3, 7):
                self.refuse(thing, [], 1)

    def test_the_list_of_conditions(self):
        good = ((1,), (2,), "left")
        for thing in [*ANY, (good,), good, {0: good}, {good: 1}, None, "left", ((),)]:
            if thing != []:
                self.refuse(3, thing, 1)
        self.assertEqual(solve(3, [], 1)[0], "possible")

    def test_nine_conditions(self):
        for condition in (((1,), (2,), "left"), ((), (), "right")):
            self.assertEqual(solve(7, [condition] * 8, 1)[0], "possible")
            self.refuse(7, [condition] * 9, 1)

    def test_each_part_of_a_condition(self):
        for thing in ANY:
            self.refuse(3, [thing], 1)
            self.refuse(3, [((1,), (2,), "left"), thing], 1)
            self.refuse(3, [((1,), (2,), thing)], 1)
            if thing not in ((), (1,)):
                self.refuse(3, [(thing, (2,), "left")], 1)
                self.refuse(3, [((2,), thing, "right")], 1)
            if type(thing) is not int or thing not in (1, 2, 3):
                self.refuse(3, [((thing,), (), "left")], 1)
                self.refuse(3, [((), (1, thing), "left")], 1)
                self.refuse(3, [((thing, 3), (), "left")], 1)

    def test_conditions_that_are_none(self):
        for condition in (
            ((1,), (2,)), ((1,), (2,), "left", "left"), [(1,), (2,), "left"], ([1], (2,), "left"), ((1,), [2], "left"),
            ((2, 1), (3,), "left"), ((1, 1), (3,), "left"), ((1,), (3, 2), "left"), ((1,), (2, 2), "right"),
            ((0,), (2,), "left"), ((4,), (2,), "left"), ((1,), (4,), "left"), ((True,), (2,), "left"),
            ((1,), (False, 2), "left"), ((1, True), (2,), "left"), (1, (2,), "left"), ((1,), 2, "left"),
            ((1,), (2,), "Left"), ((1,), (2,), ""), ((1,), (2,), "left "), ((1,), (2,), ["left"]),
            ((1,), (2,), ("left",)), ((1,), (2,), None), ((1,), (2,), True), ("1", (2,), "left"),
            ((1,), {2: 2}, "left"), ("left", (1,), (2,)),
            (((1,),), (2,), "left"), ((1, "2"), (3,), "left"), ((1, None), (3,), "left"), ((1, 2, 3, 4), (), "left"),
        ):
            self.refuse(3, [condition], 1)
            self.refuse(3, [((1,), (2,), "left"), condition, ((1,), (2,), "right")], 1)

    def test_patterns_of_conditions_are_those_of_the_question(self):
        for patterns, highest in ((1, 1), (3, 3), (7, 7)):
            self.assertEqual(solve(patterns, [((), (highest,), "left")], 1)[0], "possible")
            self.refuse(patterns, [((), (highest + 1,), "left")], 1)
            self.refuse(patterns, [((highest + 1,), (), "right")], 1)

    def test_the_pattern(self):
        for patterns in (1, 3, 7):
            for thing in ANY + [0, -1, patterns + 1, True, False, None, "1", (1,), [1]]:
                if type(thing) is not int or not 1 <= thing <= patterns:
                    self.refuse(patterns, [], thing)

    def test_by_name(self):
        wanted = ("possible", (0, 1, 1))
        self.assertEqual(solve(pattern=3, conditions=[((1,), (2,), "left")], patterns=3), wanted)


if __name__ == "__main__":
    unittest.main()
