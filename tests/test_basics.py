"""is_name, is_element and is_entry: points 2, 4 and 6."""

import string
import unittest

from equalunlike.basics import is_element, is_entry, is_name
from samples import ANY, HOLDERS, NUMBERS, PLAIN, STRINGS

NAMES = ["a", "z", "m", "ab", "abc", "abcd", "zzzz", "key", "keyx", "keyz", "loo", "lock", "sel", "selv"]
NO_NAMES = [
    "", "abcde", "aaaaaaaa", "keys", "look", "self", "A", "aB", "Keys", "LOOK", "a1", "1", "a ", " a", "a b", " ",
    "a\n", "\n", "\na", "a_b", "_", "`", "{", "@", "[", "~", "a" * 2000,
]


class TestIsName(unittest.TestCase):
    def test_names(self):
        for name in NAMES:
            with self.subTest(name):
                self.assertIs(is_name(name), True)

    def test_each_letter(self):
        for letter in string.ascii_lowercase:
            self.assertIs(is_name(letter), True)
            self.assertIs(is_name("abc" + letter), True)

    def test_no_other_character(self):
        for code in range(32, 127):
            character = chr(code)
            if not "a" <= character <= "z":
                for text in (character, character + "a", "a" + character, "ab" + character + "c"):
                    with self.subTest(text):
                        self.assertIs(is_name(text), False)

    def test_no_names(self):
        for text in NO_NAMES:
            with self.subTest(text):
                self.assertIs(is_name(text), False)

    def test_nothing_but_strings(self):
        for thing in [None, True, False] + NUMBERS + HOLDERS + [["a"], ("a",), {"a": "a"}, ("a", "b")]:
            with self.subTest(thing):
                self.assertIs(is_name(thing), False)

    def test_by_name(self):
        self.assertIs(is_name(thing="a"), True)


class TestIsElement(unittest.TestCase):
    def test_elements(self):
        for key in (0, 1, 17, 999998, 999999):
            for form in NAMES:
                with self.subTest(key=key, form=form):
                    self.assertIs(is_element((key, form)), True)

    def test_keys_that_are_none(self):
        for key in [-1, -999999, 1000000, 10 ** 39, True, False, None, "1", "", "a", [], [1], (), (1,), {}]:
            with self.subTest(key):
                self.assertIs(is_element((key, "x")), False)

    def test_forms_that_are_none(self):
        for form in NO_NAMES + [None, True, 1, 0, ["x"], ("x",), {}, []]:
            with self.subTest(form):
                self.assertIs(is_element((1, form)), False)

    def test_other_lengths_and_holders(self):
        for thing in [(), (1,), ("x",), (1, "x", 5), (1, "x", "x"), (1, "x", 5, 6), [1, "x"], {1: "x"}, "1x", "x"]:
            with self.subTest(thing):
                self.assertIs(is_element(thing), False)

    def test_by_name(self):
        self.assertIs(is_element(thing=(1, "x")), True)


class TestIsEntry(unittest.TestCase):
    def test_entries(self):
        for key in (0, 1, 999999):
            for value in (0, 1, -1, 5, 10 ** 39, 10 ** 40 - 1, -(10 ** 40 - 1)):
                with self.subTest(key=key, value=value):
                    self.assertIs(is_entry((key, "x", value)), True)

    def test_values_that_are_none(self):
        for value in [10 ** 40, -(10 ** 40), 10 ** 41, True, False, None, "5", "", [], [5], (), (5,), {}]:
            with self.subTest(value):
                self.assertIs(is_entry((1, "x", value)), False)

    def test_keys_and_forms_that_are_none(self):
        for key in [-1, 1000000, True, False, None, "1", [], (1,)]:
            with self.subTest(key):
                self.assertIs(is_entry((key, "x", 5)), False)
        for form in NO_NAMES + [None, True, 1, ["x"], ("x",)]:
            with self.subTest(form):
                self.assertIs(is_entry((1, form, 5)), False)

    def test_other_lengths_and_holders(self):
        for thing in [(), (1,), (1, "x"), (1, "x", 5, 6), [1, "x", 5], ((1, "x"), 5), (1, ("x", 5)), "1x5", {1: 5}]:
            with self.subTest(thing):
                self.assertIs(is_entry(thing), False)

    def test_by_name(self):
        self.assertIs(is_entry(thing=(1, "x", 5)), True)


class TestAnyValue(unittest.TestCase):
    def test_booleans_for_any_value(self):
        for thing in ANY:
            for question in (is_name, is_element, is_entry):
                with self.subTest(question=question.__name__, thing=thing):
                    self.assertIs(type(question(thing)), bool)

    def test_pairs_of_any_values(self):
        for key in PLAIN:
            for form in STRINGS + [None, 1, True, []]:
                wanted = type(key) is int and 0 <= key < 1000000 and is_name(form)
                with self.subTest(key=key, form=form):
                    self.assertIs(is_element((key, form)), wanted)
                    self.assertIs(is_entry((key, form, 5)), wanted)
                    self.assertIs(is_entry((key, form)), False)

    def test_what_was_passed_stays(self):
        thing = [1, ["x"], {"a": [2]}]
        for question in (is_name, is_element, is_entry):
            question(thing)
            question((thing, thing, thing))
        self.assertEqual(thing, [1, ["x"], {"a": [2]}])


if __name__ == "__main__":
    unittest.main()
