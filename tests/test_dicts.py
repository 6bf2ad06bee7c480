"""Form dicts: points 2 and 6, and the deeds put, default and discard of point 20."""

import itertools
import unittest

from equalunlike.basics import is_entry
from equalunlike.dicts import FormDict
from equalunlike.errors import BadElement, BadKey
from equalunlike.sets import FormSet
from samples import ANY
from tagged import python_dict, python_set, told

HIGHEST = 10 ** 40 - 1

NO_ENTRIES = [
    (-1, "x", 5), (1000000, "x", 5), (True, "x", 5), (False, "x", 5), (None, "x", 5), ([1], "x", 5),
    (1, "keys", 5), (1, "self", 5), (1, "", 5), (1, "abcde", 5), (1, "X", 5), (1, None, 5), (1, ["x"], 5),
    (1, "x", True), (1, "x", False), (1, "x", None), (1, "x", "5"), (1, "x", [5]), (1, "x", 10 ** 40),
    (1, "x", -(10 ** 40)), [1, "x", 5], (1, "x"), (1, "x", 5, 6), (1,), (), [], {}, {1: 5}, "1x5", "", None, 1, True,
    ((1, "x"), 5), ("x", 1, 5),
]


def one_dict(*keys, form="x", value=5):
    """A form dict with these keys, all in one form and with one value."""
    return FormDict([(key, form, value) for key in keys])


def one_set(*keys, form="s"):
    return FormSet([(key, form) for key in keys])


def key_rows():
    return [keys for many in range(5) for keys in itertools.combinations((0, 3, 9, 999999), many)]


def small_pairs():
    """All pairs of a dict in the form x and one in the form y, over four keys, with unlike values."""
    for mine, theirs in itertools.product(key_rows(), key_rows()):
        yield one_dict(*mine, form="x", value=-1), one_dict(*theirs, form="y", value=2)


def dicts_and_sets():
    for mine, theirs in itertools.product(key_rows(), key_rows()):
        yield one_dict(*mine, form="x", value=-1), one_set(*theirs, form="y")


class TestMaking(unittest.TestCase):
    def test_of_lists_and_tuples(self):
        rows = [(2, "two", 22), (1, "one", -11), (999999, "z", HIGHEST), (0, "a", 0)]
        for given in (rows, tuple(rows)):
            made = FormDict(given)
            self.assertEqual(made.entries(), [(0, "a", 0), (1, "one", -11), (2, "two", 22), (999999, "z", HIGHEST)])
            self.assertEqual(FormDict(given=given), made)

    def test_empty(self):
        for empty in (FormDict(), FormDict([]), FormDict(()), FormDict(given=[])):
            self.assertEqual(empty.entries(), [])

    def test_the_first_form_and_the_last_value_stay(self):
        rows = [(1, "b", 1), (2, "x", 7), (1, "a", 2), (2, "y", 8), (1, "c", 3), (2, "x", 9)]
        self.assertEqual(FormDict(rows).entries(), [(1, "b", 3), (2, "x", 9)])
        self.assertEqual(FormDict(tuple(reversed(rows))).entries(), [(1, "c", 1), (2, "x", 7)])

    def test_values_at_both_ends(self):
        for value in (HIGHEST, -HIGHEST, 0, -1, 10 ** 39):
            self.assertEqual(FormDict([(1, "x", value)])[1], value)
        for value in (10 ** 40, -(10 ** 40)):
            with self.assertRaises(BadElement) as caught:
                FormDict([(1, "x", value)])
            self.assertEqual(caught.exception.value, (1, "x", value))

    def test_an_item_that_is_no_entry(self):
        for item in NO_ENTRIES:
            for given in ([item], (item,), [(1, "x", 5), item], ((1, "x", 5), (2, "x", 5), item, (3, "x", 5))):
                with self.subTest(given=given), self.assertRaises(BadElement) as caught:
                    FormDict(given)
                self.assertIs(caught.exception.value, item)

    def test_the_first_item_that_is_no_entry(self):
        first, second = [1, "x", 5], [2, "y", 5]
        with self.assertRaises(BadElement) as caught:
            FormDict([(1, "x", 5), first, second])
        self.assertIs(caught.exception.value, first)

    def test_what_is_neither_list_nor_tuple(self):
        for given in ANY + [FormDict(), FormDict([(1, "x", 5)]), FormSet([(1, "x")])]:
            if not isinstance(given, (list, tuple)):
                with self.subTest(given), self.assertRaises(BadElement) as caught:
                    FormDict(given)
                self.assertIs(caught.exception.value, given)

    def test_an_entry_is_no_tuple_of_entries(self):
        with self.assertRaises(BadElement) as caught:
            FormDict((1, "x", 5))
        self.assertEqual(caught.exception.value, 1)

    def test_the_list_passed_stays_and_is_not_kept(self):
        rows = [(2, "b", 1), (1, "a", 2), (2, "c", 3)]
        made = FormDict(rows)
        self.assertEqual(rows, [(2, "b", 1), (1, "a", 2), (2, "c", 3)])
        rows.append((3, "c", 4))
        rows[0] = (9, "z", 5)
        self.assertEqual(made.entries(), [(1, "a", 2), (2, "b", 3)])

    def test_a_failed_list_stays(self):
        rows = [(1, "a", 1), None]
        self.assertRaises(BadElement, FormDict, rows)
        self.assertEqual(rows, [(1, "a", 1), None])


class TestAsking(unittest.TestCase):
    def setUp(self):
        self.some = FormDict([(10, "ten", 1), (9, "nine", -2), (100, "many", 0), (1, "one", HIGHEST), (0, "zero", 7)])
        self.rows = [(0, "zero", 7), (1, "one", HIGHEST), (9, "nine", -2), (10, "ten", 1), (100, "many", 0)]

    def test_entries(self):
        self.assertEqual(self.some.entries(), self.rows)
        self.assertIs(type(self.some.entries()), list)
        self.assertEqual({type(entry) for entry in self.some.entries()}, {tuple})

    def test_entries_belong_to_the_caller(self):
        rows = self.some.entries()
        rows.clear()
        self.some.entries().append((5, "x", 5))
        self.assertEqual(self.some.entries(), self.rows)
        self.assertEqual(len(self.some), 5)

    def test_entries_may_be_passed_again(self):
        self.assertEqual(FormDict(self.some.entries()), self.some)

    def test_each(self):
        going = self.some.each()
        self.assertIs(iter(going), going)
        self.assertEqual(next(going), (0, "zero", 7))
        self.assertEqual(list(going), self.rows[1:])
        self.assertEqual(list(going), [])
        self.assertEqual(list(self.some.each()), self.rows)
        self.assertEqual(list(FormDict().each()), [])

    def test_iterators_are_independent(self):
        one, other = self.some.each(), self.some.each()
        self.assertEqual([next(one), next(one)], self.rows[:2])
        self.assertEqual(next(other), self.rows[0])

    def test_contains_any_value(self):
        for thing in ANY + [0, 1, 9, 10, 100, 2, 99]:
            wanted = thing is not True and thing is not False and any(thing == row[0] for row in self.rows)
            with self.subTest(thing):
                self.assertIs(thing in self.some, wanted)
                self.assertIs(thing in FormDict(), False)

    def test_form_of_and_value(self):
        for key, form, value in self.rows:
            self.assertEqual(self.some.form_of(key), form)
            self.assertEqual(self.some.form_of(key=key), form)
            self.assertEqual(self.some[key], value)

    def test_form_of_and_value_of_what_is_no_key(self):
        for thing in ANY + [True, False, (1, "one"), (1, "one", 1), [1], {1: 1}, -1, 2]:
            if thing not in self.some:
                with self.subTest(thing):
                    with self.assertRaises(BadKey) as caught:
                        self.some.form_of(thing)
                    self.assertIs(caught.exception.value, thing)
                    with self.assertRaises(BadKey) as caught:
                        self.some[thing]
                    self.assertIs(caught.exception.value, thing)
        self.assertRaises(BadKey, FormDict().form_of, 0)

    def test_len_and_truth(self):
        self.assertEqual([len(self.some), len(FormDict()), len(FormDict([(1, "x", 1), (1, "y", 2)]))], [5, 0, 1])
        self.assertTrue(self.some)
        self.assertTrue(FormDict([(0, "x", 0)]))
        self.assertFalse(FormDict())

    def test_str(self):
        self.assertEqual(str(FormDict([(2, "y", -7), (1, "x", 5)])), "1:x=5 2:y=-7")
        self.assertEqual(str(FormDict([(10, "x", 0), (9, "y", -HIGHEST)])), f"9:y=-{HIGHEST} 10:x=0")
        self.assertEqual(str(FormDict()), "empty")

    def test_repr(self):
        self.assertEqual(repr(FormDict([(1, "x", 5)])), "FormDict([(1, 'x', 5)])")
        self.assertEqual(repr(FormDict([(2, "y", -7), (1, "x", 5)])), "FormDict([(1, 'x', 5), (2, 'y', -7)])")
        self.assertEqual(repr(FormDict()), "FormDict([])")


class TestComparing(unittest.TestCase):
    def test_same_entries(self):
        one = FormDict([(1, "x", 5), (2, "y", 6)])
        self.assertIs(one == FormDict([(2, "y", 6), (1, "x", 4), (1, "z", 5)]), True)
        self.assertIs(one != FormDict([(2, "y", 6), (1, "x", 5)]), False)
        self.assertIs(FormDict() == FormDict([]), True)

    def test_other_entries(self):
        one = FormDict([(1, "x", 5), (2, "y", 6)])
        for other in (
            [], [(1, "x", 5)], [(1, "x", 5), (2, "z", 6)], [(1, "x", 5), (2, "y", 7)], [(1, "x", 6), (2, "y", 5)],
            [(1, "x", 5), (2, "y", 6), (3, "z", 7)], [(1, "x", 5), (3, "y", 6)],
        ):
            self.assertIs(one == FormDict(other), False)
            self.assertIs(FormDict(other) == one, False)
            self.assertIs(one != FormDict(other), True)

    def test_a_form_dict_equals_nothing_else(self):
        for one in (FormDict(), FormDict([(1, "x", 5)])):
            things = ANY + [one.entries(), tuple(one.entries()), str(one), repr(one), {1: 5}, one.key_set(), FormSet()]
            for thing in things:
                with self.subTest(one=one, thing=thing):
                    self.assertIs(one == thing, False)
                    self.assertIs(thing == one, False)
                    self.assertIs(one != thing, True)

    def test_equals_asks_for_keys_and_values(self):
        one = FormDict([(1, "x", 5), (2, "y", 6)])
        for other, wanted in (
            ([(1, "x", 5), (2, "y", 6)], True), ([(2, "a", 6), (1, "b", 5)], True), ([(1, "x", 5)], False),
            ([], False), ([(1, "x", 5), (2, "y", 7)], False), ([(1, "x", 6), (2, "y", 5)], False),
            ([(1, "x", 5), (2, "y", 6), (3, "z", 7)], False), ([(1, "x", 5), (3, "y", 6)], False),
        ):
            self.assertIs(one.equals(FormDict(other)), wanted)
            self.assertIs(FormDict(other).equals(other=one), wanted)
        self.assertIs(FormDict().equals(FormDict()), True)


class TestOperations(unittest.TestCase):
    def test_or_takes_the_first_form_and_the_last_value(self):
        d, e = FormDict([(1, "x", 5), (2, "x", 6)]), FormDict([(2, "y", -7), (3, "y", 8)])
        self.assertEqual(str(d | e), "1:x=5 2:x=-7 3:y=8")
        self.assertEqual(str(e | d), "1:x=5 2:y=6 3:y=8")

    def test_all_small_dicts_in_the_words_of_the_document(self):
        for d, e in small_pairs():
            mine, theirs = [row[0] for row in d.entries()], [row[0] for row in e.entries()]
            keys = sorted(set(mine) | set(theirs))
            wanted = [(key, "x" if key in mine else "y", 2 if key in theirs else -1) for key in keys]
            with self.subTest(d=d, e=e):
                self.assertEqual((d | e).entries(), wanted)
                self.assertEqual(d.key_set(), FormSet([(key, "x") for key in mine]))

    def test_all_small_dicts_as_python_has_them(self):
        for d, e in small_pairs():
            with self.subTest(d=d, e=e):
                self.assertEqual((d | e).entries(), told(python_dict(d) | python_dict(e)))

    def test_all_small_dicts_and_sets(self):
        for d, s in dicts_and_sets():
            inside = [row for row in d.entries() if row[0] in s]
            with self.subTest(d=d, s=s):
                self.assertEqual((d - s).entries(), [row for row in d.entries() if row[0] not in s])
                self.assertEqual(d.kept(s).entries(), inside)
                self.assertEqual(FormDict.looked(s, d).entries(), [(key, "y", value) for key, _, value in inside])

    def test_looked_as_python_has_it(self):
        for d, s in dicts_and_sets():
            theirs = python_dict(d)
            wanted = {x: theirs[x] for x in python_set(s) if x in theirs}
            self.assertEqual(FormDict.looked(s, d).entries(), told(wanted))

    def test_key_set(self):
        some = FormDict([(3, "c", 1), (1, "a", 2), (3, "d", 4)])
        self.assertEqual(some.key_set(), FormSet([(1, "a"), (3, "c")]))
        self.assertIs(type(some.key_set()), FormSet)
        self.assertEqual(FormDict().key_set(), FormSet())

    def test_looked(self):
        forms = FormSet([(1, "uno"), (3, "tre"), (4, "four")])
        source = FormDict([(1, "one", 5), (3, "x", -6), (9, "nine", 7)])
        self.assertEqual(str(FormDict.looked(forms, source)), "1:uno=5 3:tre=-6")
        self.assertEqual(FormDict.looked(forms=forms, source=source), FormDict.looked(forms, source))
        self.assertEqual(FormDict.looked(FormSet(), source), FormDict())
        self.assertEqual(FormDict.looked(forms, FormDict()), FormDict())

    def test_operands_stay_and_results_are_new(self):
        for d, e in small_pairs():
            s = e.key_set()
            before = d.entries(), e.entries(), s.members()
            results = [
                d | e, d - s, d.kept(s), d.kept(other=s), d.merged(e), d.merged(), FormDict.looked(s, d),
                d.with_entry(3, "z", 9), d.with_entry(3, "z", 9, replace=False), d.without_key(3),
            ]
            d.key_set()
            self.assertEqual((d.entries(), e.entries(), s.members()), before)
            for result in results:
                self.assertIs(type(result), FormDict)
                self.assertIsNot(result, d)
                self.assertIsNot(result, e)

    def test_a_dict_with_itself(self):
        for some in (FormDict(), FormDict([(1, "x", 5), (2, "y", 6)])):
            own = some.key_set()
            for same in (some | some, some.kept(own), some.merged(some, some), FormDict.looked(own, some)):
                self.assertEqual(same, some)
            self.assertEqual(some - own, FormDict())
            self.assertIs(some.equals(some), True)

    def test_results_can_be_used_further(self):
        a, b, c = one_dict(1, 2, form="a"), one_dict(2, 3, form="b", value=6), one_dict(3, form="c", value=7)
        self.assertEqual(str((a | b) | c), "1:a=5 2:a=6 3:b=7")
        self.assertEqual(str((a | b) - c.key_set()), "1:a=5 2:a=6")
        self.assertEqual((a | b)[2], 6)
        self.assertEqual((a | b).form_of(2), "a")
        self.assertIs(True in (a | b), False)
        self.assertEqual(repr(b.kept(c.key_set())), "FormDict([(3, 'b', 6)])")


class TestMerged(unittest.TestCase):
    def test_none(self):
        some = one_dict(1, 2)
        self.assertEqual(some.merged(), some)
        self.assertEqual(FormDict().merged(), FormDict())

    def test_one(self):
        for d, e in small_pairs():
            self.assertEqual(d.merged(e), d | e)

    def test_several(self):
        a = one_dict(1, 2, form="a", value=1)
        b = one_dict(2, 3, form="b", value=2)
        c = one_dict(1, 3, 4, form="c", value=3)
        self.assertEqual(str(a.merged(b, c)), "1:a=3 2:a=2 3:b=3 4:c=3")
        self.assertEqual(str(a.merged(c, b)), "1:a=3 2:a=2 3:c=2 4:c=3")
        self.assertEqual(str(c.merged(FormDict(), b, a)), "1:c=1 2:b=1 3:c=2 4:c=3")
        self.assertEqual(a.merged(b, c), a | b | c)
        self.assertEqual([str(a), str(b), str(c)], ["1:a=1 2:a=1", "2:b=2 3:b=2", "1:c=3 3:c=3 4:c=3"])


class TestWithAndWithout(unittest.TestCase):
    def setUp(self):
        self.some = FormDict([(1, "x", 5), (3, "y", 6)])

    def test_with_a_new_key(self):
        self.assertEqual(str(self.some.with_entry(2, "z", -9)), "1:x=5 2:z=-9 3:y=6")
        self.assertEqual(str(self.some.with_entry(2, "z", -9, replace=False)), "1:x=5 2:z=-9 3:y=6")
        self.assertEqual(str(self.some.with_entry(key=0, form="z", value=HIGHEST)), f"0:z={HIGHEST} 1:x=5 3:y=6")
        self.assertEqual(str(FormDict().with_entry(999999, "z", 0)), "999999:z=0")
        self.assertEqual(str(FormDict().with_entry(0, "z", 0, replace=False)), "0:z=0")
        self.assertEqual(str(self.some), "1:x=5 3:y=6")

    def test_put_leaves_the_form_and_replaces_the_value(self):
        for made in (self.some.with_entry(3, "z", 7), self.some.with_entry(3, "z", 7, replace=True)):
            self.assertEqual(str(made), "1:x=5 3:y=7")

    def test_default_leaves_all(self):
        self.assertEqual(self.some.with_entry(3, "z", 7, replace=False), self.some)
        self.assertEqual(self.some.with_entry(value=7, replace=False, key=1, form="z"), self.some)

    def test_replace_is_passed_by_name(self):
        self.assertRaises(TypeError, self.some.with_entry, 3, "z", 7, False)

    def test_with_what_is_no_entry(self):
        for three in [item for item in NO_ENTRIES if isinstance(item, tuple) and len(item) == 3]:
            for some in (FormDict(), self.some):
                for replace in (True, False):
                    with self.subTest(three), self.assertRaises(BadElement) as caught:
                        some.with_entry(*three, replace=replace)
                    self.assertEqual(repr(caught.exception.value), repr(three))
        self.assertEqual(str(self.some), "1:x=5 3:y=6")

    def test_with_any_values(self):
        for thing in ANY:
            for three in ((thing, "x", 5), (1, thing, 5), (1, "x", thing)):
                if not is_entry(three):
                    with self.subTest(three), self.assertRaises(BadElement) as caught:
                        self.some.with_entry(*three)
                    self.assertEqual(caught.exception.value, three)

    def test_without_key(self):
        self.assertEqual(str(self.some.without_key(1)), "3:y=6")
        self.assertEqual(str(self.some.without_key(key=3)), "1:x=5")
        self.assertEqual(str(self.some.without_key(1).without_key(3)), "empty")
        self.assertEqual(str(self.some), "1:x=5 3:y=6")

    def test_without_a_key_that_is_not_there(self):
        for key in (0, 2, 999999, 1000000, -1, 10 ** 39):
            self.assertEqual(self.some.without_key(key), self.some)
            self.assertEqual(FormDict().without_key(key), FormDict())


if __name__ == "__main__":
    unittest.main()
