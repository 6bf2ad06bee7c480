"""Houses and their deeds: point 20, with undo, twin, trial, tried and played."""

import random
import unittest

from equalunlike.dicts import FormDict
from equalunlike.errors import BadDeed, BadKey, BadKinds, BadName, BadRow, NoName, NothingToUndo, WrongKind
from equalunlike.house import House
from equalunlike.programs import Program
from equalunlike.sets import FormSet
from plainhouse import PlainHouse, any_deed, any_history, told
from samples import ANY

GREATEST = 10 ** 40 - 1


def built(*deeds):
    house = House()
    for deed in deeds:
        house.do(*deed)
    return house


class HouseTest(unittest.TestCase):
    def refuse(self, house, error, fields, *deed):
        """The deed is refused with this error, and nothing changes."""
        before = told(house)
        with self.subTest(deed=deed), self.assertRaises(error) as caught:
            house.do(*deed)
        self.assertEqual(vars(caught.exception), fields)
        self.assertEqual(told(house), before)


class TestDeeds(HouseTest):
    def test_an_empty_house(self):
        house = House()
        self.assertEqual([house.names, len(house), house.history(), str(house), bool(house)], [(), 0, [], "", False])
        self.assertEqual(house, House())
        self.assertRaises(NothingToUndo, house.undo)

    def test_set(self):
        house = House()
        self.assertEqual(house.do("set", "a", [(2, "x"), (1, "y"), (2, "z"), (1, "y")]), 0)
        self.assertEqual(house.content("a"), FormSet([(1, "y"), (2, "x")]))
        self.assertEqual(house.do("set", "b", ()), 1)
        self.assertEqual(house.content("b"), FormSet())
        self.assertEqual(house.do("set", "a", ((3, "x"),)), 2)
        self.assertEqual(house.content("a"), FormSet([(3, "x")]))

    def test_dict(self):
        house = House()
        self.assertEqual(house.do("dict", "d", [(2, "x", 5), (1, "y", -6), (2, "z", 7), (2, "x", 0)]), 0)
        self.assertEqual(house.content("d"), FormDict([(1, "y", -6), (2, "x", 0)]))
        self.assertEqual(house.do("dict", "e", []), 1)
        self.assertEqual(house.content("e"), FormDict())
        self.assertEqual(house.do("dict", "d", ((999999, "abcd", -GREATEST), (0, "z", GREATEST))), 2)
        self.assertEqual(house.content("d"), FormDict([(0, "z", GREATEST), (999999, "abcd", -GREATEST)]))

    def test_add(self):
        house = built(("set", "a", [(1, "x")]))
        self.assertEqual(house.do("add", "a", (2, "y")), 1)
        self.assertEqual(house.do("add", "a", (1, "z")), 2)
        self.assertEqual(house.do("add", "a", (1, "x")), 3)
        self.assertEqual(house.content("a"), FormSet([(1, "x"), (2, "y")]))
        self.assertEqual(len(house.history()), 4)

    def test_discard(self):
        house = built(("set", "a", [(1, "x"), (2, "y")]), ("dict", "d", [(1, "x", 5), (2, "y", 6)]))
        numbers = [house.do("discard", name, key) for name in "ad" for key in (1, 1, 999999, 0)]
        self.assertEqual(numbers, [2, 3, 4, 5, 6, 7, 8, 9])
        self.assertEqual([house.content("a"), house.content("d")], [FormSet([(2, "y")]), FormDict([(2, "y", 6)])])
        house.do("discard", "a", 2)
        self.assertEqual([house.content("a"), house.names], [FormSet(), ("a", "d")])

    def test_put(self):
        house = built(("dict", "d", [(1, "x", 5)]))
        self.assertEqual(house.do("put", "d", (1, "y"), 7), 1)
        self.assertEqual(house.content("d"), FormDict([(1, "x", 7)]))
        self.assertEqual(house.do("put", "d", (2, "y"), -8), 2)
        self.assertEqual(house.do("put", "d", (2, "z"), -8), 3)
        self.assertEqual(house.content("d"), FormDict([(1, "x", 7), (2, "y", -8)]))

    def test_default(self):
        house = built(("dict", "d", [(1, "x", 5)]))
        self.assertEqual(house.do("default", "d", (1, "y"), 7), 1)
        self.assertEqual(house.content("d"), FormDict([(1, "x", 5)]))
        self.assertEqual(house.do("default", "d", (2, "y"), -8), 2)
        self.assertEqual(house.do("default", "d", (2, "z"), 9), 3)
        self.assertEqual(house.content("d"), FormDict([(1, "x", 5), (2, "y", -8)]))

    def test_drop(self):
        house = built(("set", "a", [(1, "x")]), ("dict", "d", []))
        self.assertEqual(house.do("drop", "a"), 2)
        self.assertEqual([house.names, len(house)], [("d",), 1])
        self.assertEqual(house.do("drop", "d"), 3)
        self.assertEqual([house.names, len(house)], [(), 0])
        house.do("dict", "a", [])
        self.assertEqual(house.content("a"), FormDict())

    def test_assign(self):
        house = built(("set", "a", [(1, "x"), (2, "x")]), ("set", "b", [(2, "y"), (3, "y")]))
        for row, name, wanted in (
            ("c = a & b", "c", "2:y"), ("c |= a", "c", "1:x 2:y"), ("b = a", "b", "1:x 2:x"),
            ("a -= c", "a", "empty"),
            ("  z  =  ( b )@c ", "z", "1:x 2:x"), ("c ^= z - z", "c", "1:x 2:y"), ("c @= z", "c", "1:x 2:y"),
            ("c &= z", "c", "1:x 2:x"),
        ):
            self.assertEqual(house.do("assign", row), len(house.history()) - 1)
            self.assertEqual(str(house.content(name)), wanted)
            self.assertEqual(house.history()[-1], ("assign", row))

    def test_assign_with_dicts(self):
        house = built(("dict", "d", [(1, "x", 5), (2, "x", 6)]), ("dict", "e", [(2, "y", 7), (3, "y", 8)]))
        for row, name, wanted in (
            ("f = d | e", "f", "1:x=5 2:x=7 3:y=8"), ("d |= e", "d", "1:x=5 2:x=7 3:y=8"),
            ("a = keys(e)", "a", "2:y 3:y"), ("f -= a", "f", "1:x=5"), ("g = d @ a", "g", "2:x=7 3:y=8"),
            ("d = look(a, d)", "d", "2:y=7 3:y=8"),
            ("d = keys(d)", "d", "2:y 3:y"), ("a = e", "a", "2:y=7 3:y=8"),
        ):
            house.do("assign", row)
            self.assertEqual(str(house.content(name)), wanted)

    def test_sizes_decide_at_their_moment(self):
        house = built(("set", "a", [(1, "x"), (2, "x")]), ("set", "b", [(1, "y"), (3, "y")]))
        house.do("assign", "c = a & b")
        house.do("discard", "a", 2)
        house.do("assign", "d = a & b")
        self.assertEqual([str(house.content(name)) for name in "cd"], ["1:y", "1:x"])

    def test_assigning_copies(self):
        house = built(("set", "a", [(1, "x")]), ("assign", "b = a"), ("assign", "c = b"))
        house.do("add", "a", (2, "y"))
        house.do("discard", "b", 1)
        self.assertEqual([str(house.content(name)) for name in "abc"], ["1:x 2:y", "empty", "1:x"])
        house = built(("dict", "d", [(1, "x", 5)]), ("assign", "e = d"), ("assign", "e = e"))
        house.do("put", "d", (1, "y"), 6)
        house.do("put", "e", (2, "y"), 7)
        self.assertEqual([str(house.content(name)) for name in "de"], ["1:x=6", "1:x=5 2:y=7"])

    def test_deeds_that_change_nothing_are_deeds(self):
        house = built(("set", "a", [(1, "x")]), ("dict", "d", [(1, "x", 5)]))
        deeds = [
            ("discard", "a", 7), ("add", "a", (1, "z")), ("put", "d", (1, "z"), 5), ("default", "d", (1, "z"), 9),
            ("assign", "a = a"), ("set", "a", ((1, "x"),)), ("dict", "d", ((1, "x", 5),)), ("discard", "d", 7),
        ]
        before = house.content("a"), house.content("d")
        for number, deed in enumerate(deeds, start=2):
            self.assertEqual(house.do(*deed), number)
        self.assertEqual((house.content("a"), house.content("d")), before)
        self.assertEqual(house.history()[2:], deeds)

    def test_a_name_may_change_its_kind(self):
        house = built(("set", "a", [(1, "x")]), ("dict", "a", [(2, "y", 5)]))
        self.assertEqual(house.content("a"), FormDict([(2, "y", 5)]))
        house.do("assign", "a = keys(a)")
        self.assertEqual(house.content("a"), FormSet([(2, "y")]))
        house.do("add", "a", (3, "z"))
        house.do("dict", "a", ())
        self.assertEqual(house.content("a"), FormDict())

    def test_any_number_of_choices_and_names(self):
        names = [first + second for first in "abcdefgh" for second in "pqrs"]
        house = House()
        for at, name in enumerate(names):
            house.do("set", name, [(key, name) for key in range(at + 1)])
        house.do("assign", "all = " + " & ".join(names))
        self.assertEqual(str(house.content("all")), "0:ap")
        house.do("assign", "any = " + " | ".join(names))
        self.assertEqual([len(house.content("any")), len(house)], [32, 34])
        house.do("assign", "any = " + "&".join(["any"] * 20))
        self.assertEqual(len(house.content("any")), 32)

    def test_long_rows(self):
        house = built(("set", "a", [(1, "x")]), ("set", "aa", []))
        row = "c=" + "a&" * 98 + "aa"
        self.assertEqual(len(row), 200)
        for text in (row, row.replace("=", " " * 300 + "="), row.replace("&", " & ")):
            house.do("assign", text)
            self.assertEqual(str(house.content("c")), "empty")
        self.refuse(house, BadRow, {"place": 0}, "assign", row + "a")
        self.refuse(house, BadRow, {"place": 0}, "assign", row[:-1] + "|a")
        house.do("assign", "c = " + "(" * 8 + "a" + ")" * 8)
        self.assertEqual(str(house.content("c")), "1:x")
        self.refuse(house, BadRow, {"place": 0}, "assign", "c = " + "(" * 9 + "a" + ")" * 9)

    def test_drawn_histories_beside_a_plain_model(self):
        chance = random.Random(70)
        for _ in range(60):
            plain, house = PlainHouse(), House()
            for number in range(60):
                deed = any_deed(chance, plain.kinds())
                plain.do(*deed)
                self.assertEqual(house.do(*deed), number)
                self.assertEqual([house.names, len(house)], [tuple(sorted(plain.names)), len(plain.names)])
                for name, held in plain.names.items():
                    content = house.content(name)
                    if isinstance(held, set):
                        self.assertEqual(content, FormSet(plain.members(name)), deed)
                    else:
                        self.assertEqual(content, FormDict(plain.members(name)), deed)
            self.assertEqual(house.history(), plain.deeds)

    def test_what_a_deed_does_not_touch_stays(self):
        chance = random.Random(71)
        plain, house = PlainHouse(), House()
        for _ in range(300):
            deed = any_deed(chance, plain.kinds())
            touched = deed[1].split("=")[0].strip(" |&^-@") if deed[0] == "assign" else deed[1]
            before = told(house)[3]
            plain.do(*deed)
            house.do(*deed)
            after = told(house)[3]
            before.pop(touched, None)
            after.pop(touched, None)
            self.assertEqual(after, before)


class TestHistory(HouseTest):
    def test_tuples_also_where_lists_were_passed(self):
        given, entries = [(1, "x")], [(1, "y", 5)]
        house = built(("set", "a", given), ("dict", "d", entries))
        given.append((2, "z"))
        entries.clear()
        self.assertEqual(house.history(), [("set", "a", ((1, "x"),)), ("dict", "d", ((1, "y", 5),))])
        self.assertEqual([str(house.content("a")), str(house.content("d"))], ["1:x", "1:y=5"])
        for deed in house.history():
            self.assertIs(type(deed), tuple)
            self.assertIs(type(deed[2]), tuple)
        self.assertEqual(given, [(1, "x"), (2, "z")])

    def test_each_deed_as_it_was_given(self):
        deeds = [
            ("set", "a", ((2, "x"), (1, "y"), (2, "z"))), ("dict", "d", ((1, "x", 5), (1, "y", 6))),
            ("add", "a", (3, "z")), ("discard", "a", 3), ("put", "d", (1, "x"), 5), ("default", "d", (1, "x"), 5),
            ("assign", "  c=a&a "), ("drop", "c"),
        ]
        self.assertEqual(built(*deeds).history(), deeds)

    def test_a_new_list_at_each_call(self):
        house = built(("set", "a", []), ("drop", "a"))
        history = house.history()
        history.clear()
        self.assertEqual(len(house.history()), 2)
        self.assertEqual(house.do("set", "a", []), 2)

    def test_str(self):
        house = built(("set", "a", [(1, "x"), (2, "y")]), ("assign", " c = a"), ("dict", "d", []))
        self.assertEqual(str(house), "set a 1:x 2:y\nassign  c = a\ndict d")

    def test_names_are_ascending(self):
        house = built(*[("set", name, []) for name in ("b", "abc", "z", "a", "ab", "c")])
        self.assertEqual(house.names, ("a", "ab", "abc", "b", "c", "z"))
        self.assertRaises(AttributeError, setattr, house, "names", ())

    def test_equal_houses(self):
        one = built(("set", "a", [(1, "x")]), ("dict", "d", [(1, "x", 5)]))
        for deeds in (
            [("dict", "d", [(1, "x", 4)]), ("set", "a", []), ("add", "a", (1, "x")), ("put", "d", (1, "y"), 5)],
            [("set", "a", [(1, "x")]), ("dict", "d", [(1, "x", 5)]), ("set", "b", []), ("drop", "b")],
        ):
            self.assertIs(one == built(*deeds), True)
            self.assertIs(one != built(*deeds), False)

    def test_other_houses(self):
        one = built(("set", "a", [(1, "x")]), ("dict", "d", [(1, "x", 5)]))
        for deeds in (
            [], [("set", "a", [(1, "x")])], [("set", "a", [(1, "y")]), ("dict", "d", [(1, "x", 5)])],
            [("set", "a", [(1, "x")]), ("dict", "d", [(1, "x", 6)])], [("set", "a", [(1, "x")]), ("dict", "d", [])],
            [("set", "a", [(1, "x")]), ("dict", "e", [(1, "x", 5)])],
            [("set", "a", [(1, "x")]), ("dict", "d", [(1, "x", 5)]), ("set", "b", [])],
        ):
            self.assertIs(one == built(*deeds), False)
            self.assertIs(one != built(*deeds), True)
        self.assertIs(built(("set", "a", [])) == built(("dict", "a", [])), False)

    def test_a_house_equals_nothing_else(self):
        house = built(("set", "a", []))
        for thing in ANY + [{"a": FormSet()}, FormSet(), FormDict(), str(house), house.history(), None]:
            self.assertIs(house == thing, False)
            self.assertIs(House() == thing, False)
            self.assertIs(thing == house, False)


class TestContent(unittest.TestCase):
    def test_no_name(self):
        house = built(("set", "a", []), ("dict", "d", []))
        for thing in [*ANY, "b", "A", "keys", ["a"], ("a",), "a "]:
            if thing != "a":
                with self.subTest(thing), self.assertRaises(NoName) as caught:
                    house.content(thing)
                self.assertIs(caught.exception.name, thing)

    def test_by_name(self):
        self.assertEqual(built(("set", "a", [])).content(name="a"), FormSet())

    def test_what_was_told_before_does_not_change(self):
        house = built(("set", "a", [(1, "x")]), ("dict", "d", [(1, "x", 5)]))
        first, second = house.content("a"), house.content("d")
        house.do("add", "a", (2, "y"))
        house.do("put", "d", (1, "y"), 6)
        house.do("assign", "d = look(a, d)")
        self.assertEqual([str(first), str(second)], ["1:x", "1:x=5"])


class TestRefused(HouseTest):
    def setUp(self):
        self.house = built(("set", "a", [(1, "x")]), ("dict", "d", [(1, "x", 5)]), ("assign", "b = a"))

    def test_no_deed_at_all(self):
        for deed in (
            (), (None,), (1,), ([],), ({},), (("set", "a", []),), (["drop", "a"],), ("",), ("undo",),
            ("Set", "a", []),
            ("sets", "a", []), ("set ", "a", []), ("show", "a"), ("keys", "a"), (True,), ("history",), ("names",),
        ):
            self.refuse(self.house, BadDeed, {}, *deed)
        for thing in ANY:
            self.refuse(self.house, BadDeed, {}, thing)
            self.refuse(self.house, BadDeed, {}, thing, "a")
            self.refuse(self.house, BadDeed, {}, thing, "a", [])
            self.refuse(self.house, BadDeed, {}, thing, "d", (1, "x"), 5)

    def test_one_item_too_few_or_too_many(self):
        for deed in (
            ("set", "a", []), ("dict", "d", []), ("add", "a", (1, "x")), ("discard", "a", 1), ("drop", "a"),
            ("put", "d", (1, "x"), 5), ("default", "d", (1, "x"), 5), ("assign", "b = a"),
        ):
            self.refuse(self.house, BadDeed, {}, *deed[:-1])
            self.refuse(self.house, BadDeed, {}, *deed[:1])
            for more in (None, "a", 1, (), []):
                self.refuse(self.house, BadDeed, {}, *deed, more)

    def test_names(self):
        for thing in [*ANY, "keys", "look", "self", "A", "abcde", "", ["a"], ("a",), "a ", "a1"]:
            if not (isinstance(thing, str) and thing in ("a", "z", "ab", "abc", "abcd", "key", "loo", "sel")):
                for deed in (
                    ("set", thing, []), ("dict", thing, []), ("add", thing, (1, "x")), ("discard", thing, 1),
                    ("put", thing, (1, "x"), 5), ("default", thing, (1, "x"), 5), ("drop", thing),
                ):
                    self.refuse(self.house, BadDeed, {}, *deed)

    def test_the_contents_of_sets_and_dicts(self):
        for thing in ANY:
            if thing not in ([], (), ((1, "x"), (2, "y")), [(1, "x")], ((1, "x"),)):
                self.refuse(self.house, BadDeed, {}, "set", "c", thing)
                self.refuse(self.house, BadDeed, {}, "dict", "c", thing)
            if thing != (1, "x"):
                self.refuse(self.house, BadDeed, {}, "set", "c", [(2, "y"), thing])
                self.refuse(self.house, BadDeed, {}, "set", "c", (thing, (2, "y")))
                self.refuse(self.house, BadDeed, {}, "dict", "c", [(2, "y", 5), thing])
        for item in (
            (1, "x"), (1, "x", 5, 6), [1, "x", 5], (True, "x", 5), (1, "x", True), (1, "x", None), (1, "x", 10 ** 40),
            (1, "x", -10 ** 40), (1, "x", "5"), (1000000, "x", 5), (-1, "x", 5), (1, "keys", 5), (1, "X", 5),
        ):
            self.refuse(self.house, BadDeed, {}, "dict", "d", [item])
            self.refuse(self.house, BadDeed, {}, "dict", "d", ((1, "x", 5), item))
        for item in (
            (1, "x", 5), [1, "x"], (True, "x"), (1000000, "x"), (-1, "x"), (1, "look"), (1, "X"), (1, 1), ("1", "x"),
        ):
            self.refuse(self.house, BadDeed, {}, "set", "a", [item])
            self.refuse(self.house, BadDeed, {}, "add", "a", item)
            self.refuse(self.house, BadDeed, {}, "put", "d", item, 5)
            self.refuse(self.house, BadDeed, {}, "default", "d", item, 5)

    def test_elements_keys_and_values(self):
        for thing in ANY:
            if thing != (1, "x"):
                self.refuse(self.house, BadDeed, {}, "add", "a", thing)
                self.refuse(self.house, BadDeed, {}, "put", "d", thing, 5)
                self.refuse(self.house, BadDeed, {}, "default", "d", thing, 5)
            if type(thing) is not int or not 0 <= thing <= 999999:
                self.refuse(self.house, BadDeed, {}, "discard", "a", thing)
                self.refuse(self.house, BadDeed, {}, "discard", "q", thing)
            if type(thing) is not int:
                self.refuse(self.house, BadDeed, {}, "put", "d", (1, "x"), thing)
                self.refuse(self.house, BadDeed, {}, "default", "d", (1, "x"), thing)
        for value in (10 ** 40, -10 ** 40, True):
            self.refuse(self.house, BadDeed, {}, "put", "d", (1, "x"), value)
            self.refuse(self.house, BadDeed, {}, "default", "d", (2, "x"), value)

    def test_rows_of_assignments(self):
        for thing in [*ANY, "c = ", "a", "c = a b", "c | = a", "keys = a", "c = a\n", " ", None, ["c = a"], ("c = a",)]:
            self.refuse(self.house, BadRow, {"place": 0}, "assign", thing)

    def test_names_in_assignments(self):
        for row, name in (
            ("c = q", "q"), ("c |= a", "c"), ("c = a | q & r", "q"), ("c = r | q", "r"), ("c = keys(q)", "q"),
            ("c = look(d, q)", "q"), ("c = a & d | q", "q"), ("c -= q", "c"), ("a -= q", "q"), ("c = c", "c"),
            ("c = keys(a) | q", "q"),
        ):
            self.refuse(self.house, BadName, {"place": 0, "name": name}, "assign", row)

    def test_kinds_in_assignments(self):
        for row in (
            "c = a | d", "c = d | a", "c = d & d", "c = d ^ d", "c = d - d", "c = d @ d", "c = a - d", "c = a @ d",
            "c = keys(a)", "c = look(d, a)", "c = look(a, b)", "c = look(d, d)", "d &= d", "d |= a", "a |= d",
            "a ^= d",
        ):
            self.refuse(self.house, BadKinds, {"place": 0}, "assign", row)

    def test_no_name(self):
        for deed in (
            ("add", "q", (1, "x")), ("discard", "q", 1), ("put", "q", (1, "x"), 5), ("default", "q", (1, "x"), 5),
            ("drop", "q"),
        ):
            self.refuse(self.house, NoName, {"name": "q"}, *deed)
        self.house.do("drop", "a")
        self.refuse(self.house, NoName, {"name": "a"}, "add", "a", (1, "x"))
        self.refuse(self.house, NoName, {"name": "a"}, "drop", "a")
        self.refuse(self.house, BadName, {"place": 0, "name": "a"}, "assign", "b = a")

    def test_wrong_kind(self):
        self.refuse(self.house, WrongKind, {"name": "d"}, "add", "d", (1, "x"))
        self.refuse(self.house, WrongKind, {"name": "a"}, "put", "a", (1, "x"), 5)
        self.refuse(self.house, WrongKind, {"name": "b"}, "default", "b", (2, "x"), 5)
        # Discard and drop take both kinds.
        for deed in (("discard", "a", 1), ("discard", "d", 1), ("drop", "a"), ("drop", "d")):
            self.house.do(*deed)

    def test_the_order_of_the_errors(self):
        self.refuse(self.house, BadDeed, {}, "add", "q", (1, "X"))
        self.refuse(self.house, BadDeed, {}, "add", "d", (1, "X"))
        self.refuse(self.house, BadDeed, {}, "put", "q", (1, "x"), True)
        self.refuse(self.house, BadDeed, {}, "put", "a", (1, "x"), None)
        self.refuse(self.house, BadDeed, {}, "discard", "q", -1)
        self.refuse(self.house, BadDeed, {}, "assign", "c = (", "a")
        self.refuse(self.house, BadDeed, {}, "drop", "q", "q")
        self.refuse(self.house, BadRow, {"place": 0}, "assign", "c = q |")
        self.refuse(self.house, BadName, {"place": 0, "name": "q"}, "assign", "c = keys(a) | (d & q)")

    def test_in_an_empty_house(self):
        for deed in (("add", "a", (1, "x")), ("drop", "a"), ("discard", "a", 1)):
            self.refuse(House(), NoName, {"name": "a"}, *deed)
        self.refuse(House(), BadName, {"place": 0, "name": "a"}, "assign", "a = a")


class TestUndo(HouseTest):
    def test_each_deed(self):
        house = built(("set", "a", [(1, "x")]), ("dict", "d", [(1, "x", 5)]))
        for deed in (
            ("set", "a", ((2, "y"),)), ("set", "b", ()), ("set", "d", ()), ("dict", "d", ((2, "y", 6),)),
            ("dict", "a", ()), ("add", "a", (2, "y")), ("add", "a", (1, "y")), ("discard", "a", 1),
            ("discard", "a", 2), ("discard", "d", 1), ("put", "d", (1, "y"), 6), ("put", "d", (2, "y"), 6),
            ("default", "d", (1, "y"), 6),
            ("default", "d", (2, "y"), 6), ("assign", "a = a"), ("assign", "c = a"), ("assign", "a = d"),
            ("drop", "a"), ("drop", "d"),
        ):
            before = told(house)
            self.assertEqual(house.do(*deed), 2)
            self.assertEqual(house.undo(), deed)
            self.assertEqual(told(house), before)

    def test_lists_come_back_as_tuples(self):
        house = built(("set", "a", [(1, "x")]))
        self.assertEqual(house.undo(), ("set", "a", ((1, "x"),)))

    def test_to_the_empty_house_and_done_again(self):
        chance = random.Random(72)
        for _ in range(30):
            deeds = any_history(chance, 40)
            house, before = House(), []
            for deed in deeds:
                before.append(told(house))
                house.do(*deed)
            end = told(house)
            for deed in deeds[::-1]:
                self.assertEqual(house.undo(), deed)
                self.assertEqual(told(house), before.pop())
            self.assertEqual(house, House())
            with self.assertRaises(NothingToUndo):
                house.undo()
            for number, deed in enumerate(deeds):
                self.assertEqual(house.do(*deed), number)
            self.assertEqual(told(house), end)

    def test_other_deeds_after_undo(self):
        chance = random.Random(73)
        for _ in range(30):
            plain, house, stack = PlainHouse(), House(), []
            for _ in range(80):
                if stack and chance.random() < 0.4:
                    plain = stack.pop()
                    house.undo()
                else:
                    stack.append(plain.twin())
                    deed = any_deed(chance, plain.kinds())
                    plain.do(*deed)
                    house.do(*deed)
                self.assertEqual(house.history(), plain.deeds)
                self.assertEqual(house.names, tuple(sorted(plain.names)))
                for name in plain.names:
                    for key, (trace, value_trace) in plain.traces(name).items():
                        self.assertEqual(house.trace(name, key), trace)
                        if value_trace is not None:
                            self.assertEqual(house.value_trace(name, key), value_trace)

    def test_nothing_to_undo_changes_nothing(self):
        house = built(("set", "a", []))
        house.undo()
        for _ in range(2):
            self.assertRaises(NothingToUndo, house.undo)
        self.assertEqual(house.do("set", "a", []), 0)

    def test_a_long_history(self):
        house = built(("set", "a", []))
        for key in range(2000):
            house.do("add", "a", (key, "x"))
        for _ in range(30):
            house.do("assign", "a = a")
        self.assertEqual([len(house.content("a")), len(house.history())], [2000, 2031])
        for _ in range(2020):
            house.undo()
        self.assertEqual(str(house.content("a")), " ".join(f"{key}:x" for key in range(10)))

    def test_a_long_trace(self):
        house = built(("dict", "d", [(1, "x", 5)]), *[("assign", "d = d")] * 5000)
        self.assertEqual(house.trace("d", 1), [(number, "d") for number in range(5001)])
        self.assertEqual(house.value_trace("d", 1), house.trace("d", 1))
        for _ in range(5000):
            house.undo()
        self.assertEqual(house.trace("d", 1), [(0, "d")])


class TestTwin(HouseTest):
    def test_the_same_history_and_traces(self):
        house = House.played(any_history(random.Random(74), 60))
        twin = house.twin()
        self.assertEqual(told(twin), told(house))
        self.assertIs(twin == house, True)
        self.assertIs(twin is house, False)
        self.assertIs(type(twin), House)

    def test_it_goes_its_own_way(self):
        chance = random.Random(75)
        for _ in range(20):
            deeds = any_history(chance, 30)
            house = House.played(deeds)
            twin = house.twin()
            for one, other in ((house, twin), (twin, house)):
                before = told(other)
                for _ in range(10):
                    one.undo()
                one.do("set", "a", [(1, "x")])
                one.do("add", "a", (2, "y"))
                one.do("assign", "a = a & a")
                self.assertEqual(told(other), before)

    def test_of_an_empty_house(self):
        house = House()
        twin = house.twin()
        twin.do("set", "a", [])
        self.assertEqual([house.names, twin.names], [(), ("a",)])
        self.assertRaises(NothingToUndo, house.undo)


class Stop(Exception):
    pass


class TestTrial(HouseTest):
    def setUp(self):
        self.house = House.played(any_history(random.Random(76), 40) + [("set", "a", ((1, "x"), (2, "y")))])

    def test_no_error(self):
        with self.house.trial():
            number = self.house.do("add", "a", (3, "z"))
            self.house.undo()
            self.house.do("discard", "a", 1)
        self.assertEqual(str(self.house.content("a")), "2:y")
        self.assertEqual(self.house.history()[number:], [("discard", "a", 1)])

    def test_an_error_leaves_the_block(self):
        for error in (Stop(), ValueError("x"), KeyError(1), KeyboardInterrupt()):
            before = told(self.house)
            with self.assertRaises(type(error)) as caught:
                with self.house.trial():
                    self.house.do("add", "a", (3, "z"))
                    self.house.do("assign", "b = a")
                    self.house.do("drop", "a")
                    raise error
            self.assertIs(caught.exception, error)
            self.assertEqual(told(self.house), before)

    def test_with_undo_inside(self):
        before = told(self.house)
        with self.assertRaises(Stop):
            with self.house.trial():
                for _ in range(15):
                    self.house.undo()
                self.house.do("set", "a", [(9, "x")])
                self.house.do("add", "a", (8, "x"))
                raise Stop
        self.assertEqual(told(self.house), before)
        with self.assertRaises(NothingToUndo):
            with self.house.trial():
                while True:
                    self.house.undo()
        self.assertEqual(told(self.house), before)

    def test_an_error_of_the_house(self):
        before = told(self.house)
        with self.assertRaises(NoName) as caught:
            with self.house.trial():
                self.house.do("add", "a", (3, "z"))
                self.house.do("drop", "q")
        self.assertEqual(caught.exception.name, "q")
        self.assertEqual(told(self.house), before)

    def test_an_error_that_is_caught_inside(self):
        with self.house.trial():
            self.house.do("add", "a", (3, "z"))
            self.assertRaises(NoName, self.house.do, "drop", "q")
        self.assertEqual(str(self.house.content("a")), "1:x 2:y 3:z")

    def test_as_it_was_when_trial_was_called(self):
        before = told(self.house)
        trial = self.house.trial()
        self.house.do("add", "a", (3, "z"))
        with self.assertRaises(Stop):
            with trial:
                self.house.do("add", "a", (4, "z"))
                raise Stop
        self.assertEqual(told(self.house), before)

    def test_a_trial_within_a_trial(self):
        with self.house.trial():
            self.house.do("add", "a", (3, "z"))
            middle = told(self.house)
            with self.assertRaises(Stop):
                with self.house.trial():
                    self.house.do("add", "a", (4, "z"))
                    raise Stop
            self.assertEqual(told(self.house), middle)
        self.assertEqual(told(self.house), middle)
        with self.assertRaises(Stop):
            with self.house.trial():
                with self.house.trial():
                    self.house.do("add", "a", (4, "z"))
                raise Stop
        self.assertEqual(told(self.house), middle)

    def test_return_out_of_the_block(self):
        def add(house):
            with house.trial():
                return house.do("add", "a", (3, "z"))

        number = add(self.house)
        self.assertEqual(self.house.history()[number], ("add", "a", (3, "z")))


class TestTried(HouseTest):
    def setUp(self):
        self.house = built(("set", "a", [(1, "x")]), ("add", "a", (2, "y")))

    def test_what_it_returns(self):
        self.assertEqual(self.house.tried(lambda house: house.do("add", "a", (3, "z"))), 2)
        self.assertEqual(str(self.house.content("a")), "1:x 2:y 3:z")
        self.assertIs(self.house.tried(lambda house: house), self.house)
        self.assertIsNone(self.house.tried(lambda house: None))
        made = object()
        self.assertIs(self.house.tried(function=lambda house: made), made)

    def test_an_error_leaves_the_function(self):
        def fail(house):
            house.do("add", "a", (3, "z"))
            house.undo()
            house.undo()
            house.do("dict", "d", [])
            raise error

        for error in (Stop(), IndexError(3), KeyboardInterrupt()):
            before = told(self.house)
            with self.assertRaises(type(error)) as caught:
                self.house.tried(fail)
            self.assertIs(caught.exception, error)
            self.assertEqual(told(self.house), before)

    def test_within_tried_and_caught(self):
        def inner(house):
            house.do("add", "a", (4, "z"))
            house.undo()
            house.undo()
            raise Stop

        def outer(house):
            house.do("add", "a", (3, "z"))
            before = told(house)
            self.assertRaises(Stop, house.tried, inner)
            self.assertEqual(told(house), before)
            return house.tried(lambda own: own.do("add", "a", (5, "z")))

        self.assertEqual(self.house.tried(outer), 3)
        self.assertEqual(str(self.house.content("a")), "1:x 2:y 3:z 5:z")

    def test_within_tried_and_not_caught(self):
        def inner(house):
            house.do("drop", "a")
            house.content("a")

        def outer(house):
            house.do("add", "a", (3, "z"))
            house.tried(inner)

        before = told(self.house)
        with self.assertRaises(NoName) as caught:
            self.house.tried(outer)
        self.assertEqual(caught.exception.name, "a")
        self.assertEqual(told(self.house), before)

    def test_all_methods_may_be_called(self):
        def every(house):
            house.do("assign", "b = a")
            twin = house.twin()
            twin.undo()
            with house.trial():
                house.do("drop", "a")
            house.undo()
            return [
                str(house.content("b")), house.names, house.trace("b", 1), house.history()[2:], len(house),
                house == twin, str(house.program(2, outputs=["b"])),
            ]

        self.assertEqual(
            self.house.tried(every),
            ["1:x 2:y", ("a", "b"), [(0, "a"), (2, "b")], [("assign", "b = a")], 2, False, "b = a"],
        )


class TestPlayed(HouseTest):
    def test_the_same_history(self):
        chance = random.Random(77)
        for _ in range(20):
            deeds = any_history(chance, 40)
            house = House.played(deeds)
            self.assertIs(type(house), House)
            self.assertEqual(told(house), told(built(*deeds)))
            self.assertEqual(House.played(deeds=house.history()), house)
        self.assertEqual(House.played([]), House())

    def test_lists_within_deeds(self):
        house = House.played([("set", "a", [(1, "x")])])
        self.assertEqual(house.history(), [("set", "a", ((1, "x"),))])

    def test_what_is_no_list(self):
        for thing in [*ANY, (), (("set", "a", ()),), {0: ("set", "a", ())}, "set a", None]:
            if not isinstance(thing, list):
                self.assertRaises(BadDeed, House.played, thing)

    def test_items_that_are_no_tuples(self):
        for thing in ANY:
            with self.subTest(thing), self.assertRaises(BadDeed):
                House.played([("set", "a", ()), thing])
        for deeds in ([["set", "a", ()]], ["drop a"], [("set", "a", ()), ["drop", "a"]], [None], [()]):
            self.assertRaises(BadDeed, House.played, deeds)

    def test_the_first_item_that_cannot_be_done(self):
        first = ("set", "a", ())
        for deeds, error in (
            ([first, ("drop", "q"), None], NoName), ([first, ("put", "a", (1, "x"), 5), ("drop", "q")], WrongKind),
            ([first, ("assign", "b = (")], BadRow), ([first, ("assign", "b = q"), ("x",)], BadName),
            ([first, ("assign", "b = keys(a)"), 5], BadKinds), ([first, ("drop", "a"), ("drop", "a")], NoName),
            ([first, 5, ("drop", "q")], BadDeed), ([("drop", "a"), first], NoName),
        ):
            with self.subTest(deeds=deeds), self.assertRaises(error):
                House.played(deeds)

    def test_the_list_stays(self):
        deeds = [("set", "a", [(1, "x")]), ("assign", "b = a")]
        House.played(deeds).undo()
        self.assertEqual(deeds, [("set", "a", [(1, "x")]), ("assign", "b = a")])


class TestRunsAndHouses(unittest.TestCase):
    def test_a_row_does_what_the_program_of_this_row_does(self):
        house = built(("set", "a", [(1, "x"), (2, "x")]), ("set", "b", [(2, "y"), (3, "y"), (4, "y")]))
        for row in ("c = a & b | b & a", "a ^= b", "b = (a | b) & a"):
            contents = {name: house.content(name) for name in "ab"}
            name = row[0]
            house.do("assign", row)
            program = Program(row, sets=["a", "b"], outputs=[name])
            self.assertEqual(program.run(**contents)[name], house.content(name))

    def test_a_key_that_is_not_there(self):
        house = built(("set", "a", [(1, "x")]))
        with self.assertRaises(BadKey) as caught:
            house.content("a").form_of(2)
        self.assertEqual(caught.exception.value, 2)


if __name__ == "__main__":
    unittest.main()
