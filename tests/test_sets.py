"""Form sets: points 2, 4 and 5, and the deeds add and discard of point 20."""

import itertools
import unittest

from equalunlike.errors import BadElement, BadKey
from equalunlike.sets import FormSet
from samples import ANY
from tagged import python_set, told

NO_ELEMENTS = [
    (-1, "x"), (1000000, "x"), (True, "x"), (False, "x"), (1, "keys"), (1, ""), (1, "abcde"), (1, "X"), (1, None),
    [1, "x"], (1,), (1, "x", 5), (), [], {}, {1: "x"}, "ab", "", None, 1, 0, True, ("x", 1), ([1], "x"), (1, ["x"]),
]


def one_set(*keys, form="x"):
    """A form set with these keys, all in one form."""
    return FormSet([(key, form) for key in keys])


def small_pairs():
    """All pairs of a set in the form x and a set in the form y, over four keys."""
    rows = [keys for many in range(5) for keys in itertools.combinations((0, 3, 9, 999999), many)]
    for mine, theirs in itertools.product(rows, rows):
        yield one_set(*mine, form="x"), one_set(*theirs, form="y")


class TestMaking(unittest.TestCase):
    def test_of_lists_and_tuples(self):
        rows = [(2, "two"), (1, "one"), (999999, "z"), (0, "a")]
        for given in (rows, tuple(rows)):
            self.assertEqual(FormSet(given).members(), [(0, "a"), (1, "one"), (2, "two"), (999999, "z")])
            self.assertEqual(FormSet(given=given), FormSet(given))

    def test_empty(self):
        for empty in (FormSet(), FormSet([]), FormSet(()), FormSet(given=[])):
            self.assertEqual(empty.members(), [])

    def test_the_first_of_equal_elements_stays(self):
        rows = [(1, "b"), (2, "x"), (1, "a"), (2, "y"), (1, "c"), (2, "x")]
        self.assertEqual(FormSet(rows).members(), [(1, "b"), (2, "x")])
        self.assertEqual(FormSet(tuple(reversed(rows))).members(), [(1, "c"), (2, "x")])

    def test_an_item_that_is_no_element(self):
        for item in NO_ELEMENTS:
            for given in ([item], (item,), [(1, "x"), item], ((1, "x"), (2, "x"), item, (3, "x"))):
                with self.subTest(given=given), self.assertRaises(BadElement) as caught:
                    FormSet(given)
                self.assertIs(caught.exception.value, item)

    def test_the_first_item_that_is_no_element(self):
        first, second = [1, "x"], [2, "y"]
        with self.assertRaises(BadElement) as caught:
            FormSet([(1, "x"), first, second])
        self.assertIs(caught.exception.value, first)

    def test_what_is_neither_list_nor_tuple(self):
        for given in ANY + [FormSet(), FormSet([(1, "x")])]:
            if not isinstance(given, (list, tuple)):
                with self.subTest(given), self.assertRaises(BadElement) as caught:
                    FormSet(given)
                self.assertIs(caught.exception.value, given)

    def test_an_element_is_no_tuple_of_elements(self):
        with self.assertRaises(BadElement) as caught:
            FormSet((1, "x"))
        self.assertEqual(caught.exception.value, 1)

    def test_the_list_passed_stays_and_is_not_kept(self):
        rows = [(2, "b"), (1, "a"), (2, "c")]
        made = FormSet(rows)
        self.assertEqual(rows, [(2, "b"), (1, "a"), (2, "c")])
        rows.append((3, "c"))
        rows[0] = (9, "z")
        self.assertEqual(made.members(), [(1, "a"), (2, "b")])

    def test_a_failed_list_stays(self):
        rows = [(1, "a"), None]
        self.assertRaises(BadElement, FormSet, rows)
        self.assertEqual(rows, [(1, "a"), None])


class TestAsking(unittest.TestCase):
    def setUp(self):
        self.some = FormSet([(10, "ten"), (9, "nine"), (100, "many"), (1, "one"), (0, "zero")])
        self.rows = [(0, "zero"), (1, "one"), (9, "nine"), (10, "ten"), (100, "many")]

    def test_members(self):
        self.assertEqual(self.some.members(), self.rows)
        self.assertIs(type(self.some.members()), list)
        self.assertEqual({type(member) for member in self.some.members()}, {tuple})

    def test_members_belong_to_the_caller(self):
        rows = self.some.members()
        rows.clear()
        self.some.members().append((5, "x"))
        self.assertEqual(self.some.members(), self.rows)
        self.assertEqual(len(self.some), 5)

    def test_members_may_be_passed_again(self):
        self.assertEqual(FormSet(self.some.members()), self.some)

    def test_each(self):
        going = self.some.each()
        self.assertIs(iter(going), going)
        self.assertEqual(next(going), (0, "zero"))
        self.assertEqual(list(going), self.rows[1:])
        self.assertEqual(list(going), [])
        self.assertEqual(list(self.some.each()), self.rows)
        self.assertEqual(list(FormSet().each()), [])

    def test_iterators_are_independent(self):
        one, other = self.some.each(), self.some.each()
        self.assertEqual([next(one), next(one)], self.rows[:2])
        self.assertEqual(next(other), self.rows[0])

    def test_contains(self):
        for key in (0, 1, 9, 10, 100):
            self.assertIs(key in self.some, True)
        for key in (-1, 2, 99, 999999, 1000000, 10 ** 39):
            self.assertIs(key in self.some, False)

    def test_contains_any_value(self):
        for thing in ANY:
            wanted = any(thing is not True and thing is not False and thing == key for key, _ in self.rows)
            with self.subTest(thing):
                self.assertIs(thing in self.some, wanted)
                self.assertIs(thing in FormSet(), False)

    def test_true_and_false_and_elements_are_in_no_set(self):
        for thing in (True, False, (1, "one"), [1], {1: 1}, "1", (1,), None):
            self.assertIs(thing in self.some, False)

    def test_form_of(self):
        for key, form in self.rows:
            self.assertEqual(self.some.form_of(key), form)
        self.assertEqual(self.some.form_of(key=9), "nine")

    def test_form_of_what_is_no_key(self):
        for thing in ANY + [True, False, (1, "one"), [1], {1: 1}]:
            if thing not in self.some:
                with self.subTest(thing), self.assertRaises(BadKey) as caught:
                    self.some.form_of(thing)
                self.assertIs(caught.exception.value, thing)
        with self.assertRaises(BadKey):
            FormSet().form_of(key=0)

    def test_len_and_truth(self):
        self.assertEqual([len(self.some), len(FormSet()), len(FormSet([(1, "x"), (1, "y")]))], [5, 0, 1])
        self.assertTrue(self.some)
        self.assertTrue(FormSet([(0, "x")]))
        self.assertFalse(FormSet())

    def test_str(self):
        self.assertEqual(str(FormSet([(2, "y"), (1, "x")])), "1:x 2:y")
        self.assertEqual(str(self.some), "0:zero 1:one 9:nine 10:ten 100:many")
        self.assertEqual(str(one_set(999999)), "999999:x")
        self.assertEqual(str(FormSet()), "empty")

    def test_repr(self):
        self.assertEqual(repr(FormSet([(2, "y"), (1, "x")])), "FormSet([(1, 'x'), (2, 'y')])")
        self.assertEqual(repr(one_set(0)), "FormSet([(0, 'x')])")
        self.assertEqual(repr(FormSet()), "FormSet([])")


class TestComparing(unittest.TestCase):
    def test_same_elements(self):
        one = FormSet([(1, "x"), (2, "y")])
        self.assertIs(one == FormSet([(2, "y"), (1, "x"), (1, "z")]), True)
        self.assertIs(one != FormSet([(2, "y"), (1, "x")]), False)
        self.assertIs(FormSet() == FormSet([]), True)

    def test_other_elements(self):
        one = FormSet([(1, "x"), (2, "y")])
        for other in ([], [(1, "x")], [(1, "x"), (2, "z")], [(1, "y"), (2, "x")], [(1, "x"), (2, "y"), (3, "z")]):
            self.assertIs(one == FormSet(other), False)
            self.assertIs(FormSet(other) == one, False)
            self.assertIs(one != FormSet(other), True)

    def test_a_form_set_equals_nothing_else(self):
        for one in (FormSet(), FormSet([(1, "x")])):
            things = ANY + [one.members(), tuple(one.members()), dict(one.members()), str(one), repr(one), len(one)]
            for thing in things:
                with self.subTest(one=one, thing=thing):
                    self.assertIs(one == thing, False)
                    self.assertIs(thing == one, False)
                    self.assertIs(one != thing, True)

    def test_equals_asks_for_the_keys_alone(self):
        one = FormSet([(1, "x"), (2, "y")])
        for other, wanted in (
            ([(1, "x"), (2, "y")], True), ([(2, "a"), (1, "b")], True), ([(1, "x")], False), ([], False),
            ([(1, "x"), (2, "y"), (3, "z")], False), ([(1, "x"), (3, "y")], False),
        ):
            self.assertIs(one.equals(FormSet(other)), wanted)
            self.assertIs(FormSet(other).equals(other=one), wanted)
        self.assertIs(FormSet().equals(FormSet()), True)


class TestOperations(unittest.TestCase):
    def test_the_examples_of_the_document(self):
        a, b = FormSet([(1, "one"), (2, "two")]), FormSet([(1, "uno"), (3, "tre")])
        self.assertEqual(
            [str(a & b), str(a | b), str(a ^ b), str(a.kept(b))],
            ["1:uno", "1:one 2:two 3:tre", "2:two 3:tre", "1:one"],
        )

    def test_and_takes_the_smaller_set(self):
        two, three, four = one_set(1, 2, form="b"), one_set(1, 2, 3, form="c"), one_set(1, 2, 5, 6, form="d")
        self.assertEqual(str(two & three), "1:b 2:b")
        self.assertEqual(str(three & two), "1:b 2:b")
        self.assertEqual(str(four & three), "1:c 2:c")
        self.assertEqual(str(three & four), "1:c 2:c")

    def test_and_takes_the_right_set_of_two_of_one_size(self):
        one, other = one_set(1, 2, form="b"), one_set(1, 2, form="c")
        self.assertEqual([str(one & other), str(other & one)], ["1:c 2:c", "1:b 2:b"])
        one, other = one_set(1, 2, form="b"), one_set(1, 3, form="c")
        self.assertEqual([str(one & other), str(other & one)], ["1:c", "1:b"])

    def test_all_small_sets_in_the_words_of_the_document(self):
        for a, b in small_pairs():
            mine, theirs = dict(a.members()), dict(b.members())
            fewer = a if len(mine) < len(theirs) else b
            keys = sorted(set(mine) | set(theirs))
            both = [key for key in keys if key in mine and key in theirs]
            with self.subTest(a=a, b=b):
                self.assertEqual((a | b).members(), [(key, mine.get(key, "y")) for key in keys])
                self.assertEqual((a & b).members(), [(key, fewer.form_of(key)) for key in both])
                self.assertEqual((a - b).members(), [(key, "x") for key in keys if key not in theirs])
                self.assertEqual(
                    (a ^ b).members(), [(key, mine.get(key, "y")) for key in keys if key not in both]
                )
                self.assertEqual(a.kept(b).members(), [(key, "x") for key in both])

    def test_all_small_sets_as_python_has_them(self):
        for a, b in small_pairs():
            mine, theirs = python_set(a), python_set(b)
            with self.subTest(a=a, b=b):
                self.assertEqual((a | b).members(), told(mine | theirs))
                self.assertEqual((a & b).members(), told(mine & theirs))
                self.assertEqual((a - b).members(), told(mine - theirs))
                self.assertEqual((a ^ b).members(), told(mine ^ theirs))
                self.assertEqual(a.kept(b).members(), told({x for x in mine if x in theirs}))

    def test_operands_stay_and_results_are_new(self):
        for a, b in small_pairs():
            before = a.members(), b.members()
            results = [
                a | b, a & b, a - b, a ^ b, a.kept(b), a.joined(b), a.joined(),
                a.with_element((3, "z")), a.without_key(3),
            ]
            self.assertEqual((a.members(), b.members()), before)
            for result in results:
                self.assertIs(type(result), FormSet)
                self.assertIsNot(result, a)
                self.assertIsNot(result, b)

    def test_a_set_with_itself(self):
        for some in (FormSet(), FormSet([(1, "x"), (2, "y")])):
            for same in (some | some, some & some, some.kept(some), some.joined(some, some), some.joined()):
                self.assertEqual(same, some)
            self.assertEqual([some - some, some ^ some], [FormSet(), FormSet()])
            self.assertIs(some.equals(some), True)

    def test_results_can_be_used_further(self):
        a, b, c = one_set(1, 2, form="a"), one_set(2, 3, form="b"), one_set(3, 4, form="c")
        self.assertEqual(str((a ^ b) | c), "1:a 3:b 4:c")
        self.assertEqual(str((a | b) & c), "3:c")
        self.assertEqual(str(c & (a | b)), "3:c")
        self.assertIs(4 in (a | b | c), True)
        self.assertIs(True in (a | b), False)
        self.assertEqual((a | b | c).form_of(3), "b")
        self.assertEqual(repr(a - b), "FormSet([(1, 'a')])")


class TestJoined(unittest.TestCase):
    def test_none(self):
        some = one_set(1, 2)
        self.assertEqual(some.joined(), some)
        self.assertEqual(FormSet().joined(), FormSet())

    def test_one(self):
        for a, b in small_pairs():
            self.assertEqual(a.joined(b), a | b)

    def test_several_and_the_first_form_stays(self):
        a, b, c = one_set(1, 2, form="a"), one_set(2, 3, form="b"), one_set(1, 3, 4, form="c")
        self.assertEqual(str(a.joined(b, c)), "1:a 2:a 3:b 4:c")
        self.assertEqual(str(a.joined(c, b)), "1:a 2:a 3:c 4:c")
        self.assertEqual(str(c.joined(FormSet(), b, a)), "1:c 2:b 3:c 4:c")
        self.assertEqual(a.joined(b, c), a | b | c)
        self.assertEqual(FormSet().joined(*[one_set(key, form=form) for key, form in zip((5, 4, 5), "abc")]),
                         FormSet([(4, "b"), (5, "a")]))

    def test_operands_stay(self):
        a, b, c = one_set(1, form="a"), one_set(1, 2, form="b"), one_set(3, form="c")
        a.joined(b, c)
        self.assertEqual([str(a), str(b), str(c)], ["1:a", "1:b 2:b", "3:c"])


class TestKeptWithWithout(unittest.TestCase):
    def test_kept_does_not_ask_for_the_sizes(self):
        few, many = one_set(1, 2, form="a"), one_set(2, 3, 4, 1, form="b")
        self.assertEqual([str(few.kept(many)), str(many.kept(other=few))], ["1:a 2:a", "1:b 2:b"])
        self.assertEqual([str(few.kept(FormSet())), str(FormSet().kept(few))], ["empty", "empty"])

    def test_with_element(self):
        some = FormSet([(1, "x"), (3, "y")])
        self.assertEqual(str(some.with_element((2, "z"))), "1:x 2:z 3:y")
        self.assertEqual(str(some.with_element(element=(0, "z"))), "0:z 1:x 3:y")
        self.assertEqual(str(FormSet().with_element((999999, "z"))), "999999:z")
        self.assertEqual(str(some), "1:x 3:y")

    def test_with_element_keeps_the_equal_one(self):
        some = FormSet([(1, "x"), (3, "y")])
        self.assertEqual(some.with_element((3, "z")), some)
        self.assertEqual(some.with_element((3, "y")), some)

    def test_with_what_is_no_element(self):
        for some in (FormSet(), FormSet([(1, "x")])):
            before = some.members()
            for thing in ANY + NO_ELEMENTS + [[(2, "x")], ((2, "x"),)]:
                with self.subTest(thing), self.assertRaises(BadElement) as caught:
                    some.with_element(thing)
                self.assertIs(caught.exception.value, thing)
            self.assertEqual(some.members(), before)

    def test_without_key(self):
        some = FormSet([(1, "x"), (3, "y")])
        self.assertEqual(str(some.without_key(1)), "3:y")
        self.assertEqual(str(some.without_key(key=3)), "1:x")
        self.assertEqual(str(some.without_key(1).without_key(3)), "empty")
        self.assertEqual(str(some), "1:x 3:y")

    def test_without_a_key_that_is_not_there(self):
        some = FormSet([(1, "x"), (3, "y")])
        for key in (0, 2, 999999, 1000000, -1, 10 ** 39):
            self.assertEqual(some.without_key(key), some)
            self.assertEqual(FormSet().without_key(key), FormSet())


if __name__ == "__main__":
    unittest.main()
