"""Patterns of keys, counts and samples: point 10."""

import random
import unittest

from equalunlike.counting import counts_of, pattern_of, sample
from equalunlike.dicts import FormDict
from equalunlike.errors import BadContents, BadCounts
from equalunlike.programs import Program
from equalunlike.sets import FormSet
from anyprogram import INPUTS, any_programs
from samples import ANY


def plain(sets=(), dicts=()):
    """A program without rows."""
    return Program(sets=sets, dicts=dicts, outputs=[[*sets, *dicts][0]])


class TestPatternOf(unittest.TestCase):
    def setUp(self):
        self.three = plain(["b", "a"], ["d"])
        self.contents = {
            "b": FormSet([(1, "x"), (3, "x"), (5, "x"), (7, "x")]),
            "a": FormSet([(2, "y"), (3, "z"), (6, "y"), (7, "y")]),
            "d": FormDict([(4, "z", 1), (5, "z", 2), (6, "z", 3), (7, "z", 4)]),
        }

    def test_each_pattern_in_the_order_of_the_inputs(self):
        for key in range(9):
            self.assertEqual(pattern_of(self.three, key, **self.contents), key if key <= 7 else 0)
        turned = plain(["a", "b"], ["d"])
        self.assertEqual(
            [pattern_of(turned, key, **self.contents) for key in range(8)], [0, 2, 1, 3, 4, 6, 5, 7]
        )

    def test_one_and_two_inputs(self):
        self.assertEqual([pattern_of(plain(["a"]), key, a=FormSet([(1, "x")])) for key in (0, 1)], [0, 1])
        two = plain((), ["d", "e"])
        d, e = FormDict([(0, "x", 1), (1, "x", 1)]), FormDict([(1, "y", 2), (999999, "y", 2)])
        self.assertEqual([pattern_of(two, key, e=e, d=d) for key in (0, 1, 2, 999999)], [1, 3, 0, 2])

    def test_keys_that_none_can_have(self):
        for key in (-1, 1000000, 10 ** 39, 8):
            self.assertEqual(pattern_of(self.three, key, **self.contents), 0)

    def test_rows_do_not_matter(self):
        program = Program("a = b", "d = d - a", sets=["b", "a"], dicts=["d"], outputs=["d"])
        self.assertEqual([pattern_of(program, key, **self.contents) for key in range(8)], list(range(8)))

    def test_by_name(self):
        self.assertEqual(pattern_of(program=self.three, sought=5, **self.contents), 5)
        self.assertEqual(pattern_of(a=FormSet([(1, "x")]), sought=1, program=plain(["a"])), 1)


class TestCountsOf(unittest.TestCase):
    def test_counts(self):
        a, b = FormSet([(1, "one"), (2, "two")]), FormSet([(1, "uno"), (3, "tre")])
        self.assertEqual(counts_of(plain(["a", "b"]), a=a, b=b), (1, 1, 1))
        self.assertEqual(counts_of(plain(["a", "b"]), b=FormSet(), a=a), (2, 0, 0))
        self.assertEqual(counts_of(plain(["a"]), a=a), (2,))
        self.assertEqual(counts_of(program=plain(["a"]), a=FormSet()), (0,))
        d = FormDict([(1, "x", 5), (3, "x", 5), (4, "x", 5), (5, "x", 5)])
        self.assertEqual(counts_of(plain(["a", "b"], ["d"]), a=a, b=b, d=d), (1, 0, 0, 2, 0, 1, 1))
        self.assertIs(type(counts_of(plain(["a"]), a=a)), tuple)

    def test_as_pattern_of_tells(self):
        chance = random.Random(4)
        for sets, dicts in INPUTS * 5:
            program = plain(sets, dicts)
            contents = {name: FormSet([(key, "x") for key in range(30) if chance.random() < 0.4]) for name in sets}
            for name in dicts:
                contents[name] = FormDict([(key, "x", 5) for key in range(30) if chance.random() < 0.4])
            found = [pattern_of(program, key, **contents) for key in range(30)]
            wanted = tuple(found.count(pattern) for pattern in range(1, program.patterns + 1))
            self.assertEqual(counts_of(program, **contents), wanted)

    def test_contents_stay(self):
        a, d = FormSet([(2, "x"), (1, "y")]), FormDict([(2, "x", 1), (5, "y", 2)])
        before = a.members(), d.entries()
        counts_of(plain(["a"], ["d"]), a=a, d=d)
        pattern_of(plain(["a"], ["d"]), 2, a=a, d=d)
        self.assertEqual((a.members(), d.entries()), before)


class TestBadContents(unittest.TestCase):
    def refuse(self, name, contents):
        program = Program("c = a", sets=["a", "b"], dicts=["d"], outputs=["c"])
        calls = (lambda: pattern_of(program, 1, **contents), lambda: counts_of(program, **contents))
        for call in calls:
            with self.subTest(contents), self.assertRaises(BadContents) as caught:
                call()
            self.assertEqual(caught.exception.name, name)

    def test_as_run(self):
        good = {"a": FormSet(), "b": FormSet([(1, "x")]), "d": FormDict()}
        self.refuse("a", {})
        for name in "abd":
            self.refuse(name, {key: value for key, value in good.items() if key != name})
            for thing in ANY:
                self.refuse(name, {**good, name: thing})
        self.refuse("a", {**good, "a": FormDict()})
        self.refuse("d", {**good, "d": FormSet()})
        self.refuse("b", {"d": None, "b": None, "a": FormSet()})
        self.refuse("q", {**good, "q": FormSet()})
        self.refuse("z", {"z": 1, **good, "q": 2})
        self.refuse("q", {"q": 1, **good, "z": 2})
        self.refuse("c", {"c": FormSet(), **good})
        self.refuse("d", {"q": 1, "a": FormSet(), "b": FormSet(), "d": 5})


class TestSample(unittest.TestCase):
    def test_one_input(self):
        self.assertEqual(sample(plain(["abc"]), (3,)), {"abc": FormSet([(0, "abc"), (1, "abc"), (2, "abc")])})
        self.assertEqual(sample(plain((), ["d"]), (2,)), {"d": FormDict([(0, "d", 0), (1, "d", 0)])})
        self.assertEqual(sample(plain(["a"]), (0,)), {"a": FormSet()})

    def test_two_inputs(self):
        made = sample(plain(["a"], ["d"]), (1, 2, 3))
        self.assertEqual(list(made), ["a", "d"])
        self.assertEqual(str(made["a"]), "0:a 3:a 4:a 5:a")
        self.assertEqual(str(made["d"]), "1:d=1 2:d=1 3:d=1 4:d=1 5:d=1")

    def test_three_inputs(self):
        made = sample(program=plain(["b"], ["e", "d"]), counts=(1, 0, 2, 1, 1, 0, 1))
        self.assertEqual(list(made), ["b", "e", "d"])
        self.assertEqual(str(made["b"]), "0:b 1:b 2:b 4:b 5:b")
        self.assertEqual(str(made["e"]), "1:e=1 2:e=1 5:e=1")
        self.assertEqual(str(made["d"]), "3:d=2 4:d=2 5:d=2")

    def test_the_counts_are_those_asked_for(self):
        chance = random.Random(5)
        for program in any_programs(chance, 60):
            counts = tuple(chance.choice((0, 0, 1, 2, 9)) for _ in range(program.patterns))
            contents = sample(program, counts)
            self.assertEqual(tuple(contents), program.inputs)
            self.assertEqual(counts_of(program, **contents), counts)
            patterns = [pattern_of(program, key, **contents) for key in range(sum(counts) + 1)]
            self.assertEqual(patterns, sorted(patterns[:-1]) + [0])
            for number, name in enumerate(program.inputs):
                for row in contents[name].each():
                    self.assertEqual(row[1:], (name,) if program.input_kinds[number] == "set" else (name, number))

    def test_two_thousand_keys(self):
        self.assertEqual(len(sample(plain(["a"]), (2000,))["a"]), 2000)
        made = sample(plain(["a", "b"], ["d"]), (1, 2, 3, 4, 5, 6, 1979))
        self.assertEqual([len(made["a"]), len(made["b"]), len(made["d"])], [1988, 1990, 1994])
        self.assertEqual(sample(plain(["a", "b"]), (0, 2000, 0))["a"], FormSet())
        for counts in ((2001, 0, 0), (1, 0, 2000), (667, 667, 667), (10 ** 40, 0, 0)):
            self.assertRaises(BadCounts, sample, plain(["a", "b"]), counts)

    def test_bad_counts(self):
        program = plain(["a", "b"])
        for counts in (
            [1, 1, 1], (1, 1), (1, 1, 1, 1), (), (1, 1, -1), (-1, 0, 2), (True, 1, 1), (1, False, 0), (1, 1, None),
            (1, "1", 1), (1, [1], 1), ((1, 1, 1),), (0, 0, 10 ** 40 + 1), {1: 1}, "111", None, 3,
        ):
            self.assertRaises(BadCounts, sample, program, counts)
        for thing in ANY:
            self.assertRaises(BadCounts, sample, program, thing)
            self.assertRaises(BadCounts, sample, program, (1, thing, 1) if type(thing) is not int else (1, -1, 1))

    def test_new_at_each_call(self):
        program = plain(["a"])
        first = sample(program, (1,))
        first["a"] = None
        self.assertEqual(sample(program, (1,)), {"a": FormSet([(0, "a")])})


if __name__ == "__main__":
    unittest.main()
