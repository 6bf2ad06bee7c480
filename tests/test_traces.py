"""Traces: point 21, and the checkers of traces."""

import random
import unittest

from equalunlike.errors import BadKey, NoName, WrongKind
from equalunlike.house import House
from equalunlike.traces import explains, explains_value
from plainhouse import PlainHouse, any_deed, any_history
from samples import ANY
from spoiling import same, spoiled


def played(*deeds):
    return House.played([("assign", deed) if isinstance(deed, str) else deed for deed in deeds])


def two_sets(*deeds):
    """The deed 0 is a with the keys 1, 2, the deed 1 is b with the keys 2, 3, 4."""
    return played(("set", "a", [(1, "x"), (2, "x")]), ("set", "b", [(2, "y"), (3, "y"), (4, "y")]), *deeds)


def two_dicts(*deeds):
    """The deed 0 is d with the keys 1, 2, the deed 1 is e with the keys 2, 3."""
    return played(("dict", "d", [(1, "x", 5), (2, "x", 6)]), ("dict", "e", [(2, "y", 7), (3, "y", 8)]), *deeds)


class TraceTest(unittest.TestCase):
    def check(self, house, name, wanted, values=None):
        """wanted has the trace for each key of the set or dict, values that of each value."""
        content = house.content(name)
        rows = content.entries() if hasattr(content, "entries") else content.members()
        self.assertEqual({row[0]: house.trace(name, row[0]) for row in rows}, wanted)
        if values is not None:
            self.assertEqual({row[0]: house.value_trace(name, row[0]) for row in rows}, values)


class TestTraces(TraceTest):
    def test_the_example_of_the_document(self):
        house = played(("set", "a", [(1, "x")]), ("set", "b", [(1, "y"), (2, "y")]), "c = a & b", "a = c | b")
        self.assertEqual(house.trace("a", 1), [(0, "a"), (2, "c"), (3, "a")])
        self.assertEqual(house.trace("a", 2), [(1, "b"), (3, "a")])

    def test_each_kind_of_origin(self):
        house = two_sets(("add", "a", (5, "z")), ("dict", "d", [(1, "x", 5)]))
        self.check(house, "a", {1: [(0, "a")], 2: [(0, "a")], 5: [(2, "a")]})
        house.do("put", "d", (2, "y"), 6)
        house.do("default", "d", (3, "y"), 7)
        wanted = {1: [(3, "d")], 2: [(4, "d")], 3: [(5, "d")]}
        self.check(house, "d", wanted, wanted)

    def test_each_operator(self):
        for expression, wanted in (
            ("a | b", {1: "a", 2: "a", 3: "b", 4: "b"}), ("b | a", {1: "a", 2: "b", 3: "b", 4: "b"}),
            ("a & b", {2: "a"}), ("b & a", {2: "a"}), ("a - b", {1: "a"}), ("b - a", {3: "b", 4: "b"}),
            ("a ^ b", {1: "a", 3: "b", 4: "b"}), ("a @ b", {2: "a"}), ("b @ a", {2: "b"}), ("a", {1: "a", 2: "a"}),
            ("a & a", {1: "a", 2: "a"}), ("(b | a) & (a | b)", {1: "a", 2: "a", 3: "b", 4: "b"}),
        ):
            house = two_sets(f"c = {expression}")
            origin = {"a": (0, "a"), "b": (1, "b")}
            with self.subTest(expression):
                self.check(house, "c", {key: [origin[name], (2, "c")] for key, name in wanted.items()})

    def test_sizes_at_that_moment(self):
        house = two_sets("c = a & b", ("discard", "b", 3), "e = a & b", ("discard", "b", 4), "f = a & b", "g = b & a")
        self.assertEqual(house.trace("c", 2), [(0, "a"), (2, "c")])
        # As many on both sides: those of the right operand.
        self.assertEqual(house.trace("e", 2), [(1, "b"), (4, "e")])
        self.assertEqual(house.trace("f", 2), [(1, "b"), (6, "f")])
        self.assertEqual(house.trace("g", 2), [(1, "b"), (7, "g")])

    def test_an_assignment_has_one_pair(self):
        house = two_sets("c = ((a | b) & (b | a) | a - a) @ (a ^ b | b)", "c |= c & c | a")
        self.assertEqual(house.trace("c", 3), [(1, "b"), (2, "c"), (3, "c")])
        self.assertEqual(len(house.trace("c", 1)), 3)

    def test_a_name_that_gets_its_own_element_again(self):
        house = two_sets("a = a", "a |= b", "a = a @ b")
        self.check(house, "a", {
            2: [(0, "a"), (2, "a"), (3, "a"), (4, "a")], 3: [(1, "b"), (3, "a"), (4, "a")],
            4: [(1, "b"), (3, "a"), (4, "a")],
        })
        self.check(house, "b", {key: [(1, "b")] for key in (2, 3, 4)})

    def test_deeds_that_change_no_trace(self):
        house = two_sets("a = a", ("add", "a", (1, "z")), ("discard", "a", 7), ("discard", "b", 4))
        self.check(house, "a", {1: [(0, "a"), (2, "a")], 2: [(0, "a"), (2, "a")]})
        self.check(house, "b", {2: [(1, "b")], 3: [(1, "b")]})

    def test_discarded_and_added_anew(self):
        house = two_sets("a = a", ("discard", "a", 1), ("add", "a", (1, "x")), "c = a")
        self.assertEqual(house.trace("c", 1), [(4, "a"), (5, "c")])

    def test_names_that_are_set_dropped_or_assigned_anew(self):
        house = two_sets("c = a", ("set", "a", [(1, "x"), (3, "x")]), "b = a", ("drop", "a"))
        self.check(house, "c", {1: [(0, "a"), (2, "c")], 2: [(0, "a"), (2, "c")]})
        self.check(house, "b", {1: [(3, "a"), (4, "b")], 3: [(3, "a"), (4, "b")]})
        house.do("dict", "b", [(1, "x", 5)])
        self.check(house, "b", {1: [(6, "b")]}, {1: [(6, "b")]})

    def test_the_same_element_again_begins_anew(self):
        house = two_sets(("set", "a", [(1, "x"), (2, "x")]))
        self.check(house, "a", {1: [(2, "a")], 2: [(2, "a")]})


class TestValueTraces(TraceTest):
    def test_put(self):
        house = two_dicts(("put", "d", (1, "z"), 9), ("put", "d", (4, "z"), 9))
        elements = {1: [(0, "d")], 2: [(0, "d")], 4: [(3, "d")]}
        self.check(house, "d", elements, {1: [(2, "d")], 2: [(0, "d")], 4: [(3, "d")]})
        house.do("put", "d", (1, "x"), 9)
        self.assertEqual([house.trace("d", 1), house.value_trace("d", 1)], [[(0, "d")], [(4, "d")]])

    def test_put_behind_an_assignment(self):
        house = two_dicts("d = d", ("put", "d", (1, "x"), 9), "f = d")
        self.assertEqual(house.trace("f", 1), [(0, "d"), (2, "d"), (4, "f")])
        self.assertEqual(house.value_trace("f", 1), [(3, "d"), (4, "f")])

    def test_default(self):
        house = two_dicts(("default", "d", (1, "z"), 9), ("default", "d", (4, "z"), 9))
        wanted = {1: [(0, "d")], 2: [(0, "d")], 4: [(3, "d")]}
        self.check(house, "d", wanted, wanted)

    def test_a_key_twice_in_one_deed(self):
        house = played(("dict", "d", [(1, "x", 5), (1, "y", 6)]))
        self.check(house, "d", {1: [(0, "d")]}, {1: [(0, "d")]})

    def test_or(self):
        house = two_dicts("f = d | e", "d |= e | d")
        d, e = (0, "d"), (1, "e")
        self.check(
            house, "f", {1: [d, (2, "f")], 2: [d, (2, "f")], 3: [e, (2, "f")]},
            {1: [d, (2, "f")], 2: [e, (2, "f")], 3: [e, (2, "f")]},
        )
        self.check(
            house, "d", {1: [d, (3, "d")], 2: [d, (3, "d")], 3: [e, (3, "d")]},
            {1: [d, (3, "d")], 2: [d, (3, "d")], 3: [e, (3, "d")]},
        )

    def test_with_sets(self):
        house = two_dicts(("set", "s", [(2, "z"), (3, "z"), (9, "z")]), "f = d - s", "g = d @ s", "h = look(s, d | e)")
        self.check(house, "f", {1: [(0, "d"), (3, "f")]}, {1: [(0, "d"), (3, "f")]})
        self.check(house, "g", {2: [(0, "d"), (4, "g")]}, {2: [(0, "d"), (4, "g")]})
        self.check(
            house, "h", {2: [(2, "s"), (5, "h")], 3: [(2, "s"), (5, "h")]},
            {2: [(1, "e"), (5, "h")], 3: [(1, "e"), (5, "h")]},
        )

    def test_keys_and_look(self):
        house = two_dicts(("put", "d", (1, "z"), 9), "s = keys(d)", "f = look(s & keys(e), d)", "f |= look(keys(d), d)")
        self.check(house, "s", {1: [(0, "d"), (3, "s")], 2: [(0, "d"), (3, "s")]})
        self.check(
            house, "f", {1: [(0, "d"), (5, "f")], 2: [(1, "e"), (4, "f"), (5, "f")]},
            {1: [(2, "d"), (5, "f")], 2: [(0, "d"), (5, "f")]},
        )

    def test_carried_on_from_unlike_names(self):
        house = two_dicts("f = d | e")
        self.assertEqual([house.trace("f", 2), house.value_trace("f", 2)], [[(0, "d"), (2, "f")], [(1, "e"), (2, "f")]])
        self.assertEqual(str(house.content("f")), "1:x=5 2:x=7 3:y=8")


class TestErrors(unittest.TestCase):
    def setUp(self):
        self.house = played(
            ("set", "a", [(0, "x"), (1, "x")]), ("dict", "d", [(1, "x", 5)]), ("set", "b", []), ("drop", "b"),
        )

    def calls(self, name, key):
        return {
            "trace": lambda: self.house.trace(name, key), "value": lambda: self.house.value_trace(name, key),
            "explains": lambda: explains(self.house, name, key, []),
            "explains_value": lambda: explains_value(self.house, name, key, []),
        }

    def refuse(self, error, fields, call):
        with self.assertRaises(error) as caught:
            call()
        for field, value in fields.items():
            self.assertIs(getattr(caught.exception, field), value)

    def test_no_name(self):
        for thing in [*ANY, "b", "q", "keys", ["a"], ("a",)]:
            if thing != "a":
                for key in (1, 7, None, []):
                    for word, call in self.calls(thing, key).items():
                        with self.subTest(thing=thing, word=word):
                            self.refuse(NoName, {"name": thing}, call)

    def test_wrong_kind(self):
        for key in (0, 1, 7, None, [], True):
            for word in ("value", "explains_value"):
                self.refuse(WrongKind, {"name": "a"}, self.calls("a", key)[word])

    def test_bad_key(self):
        for thing in [*ANY, True, False, None, 7, -1, "1", (1, "x"), [1]]:
            is_key = type(thing) is int
            for word, call in self.calls("a", thing).items():
                if word in ("trace", "explains") and not (is_key and thing in (0, 1)):
                    self.refuse(BadKey, {"value": thing}, call)
            if not (is_key and thing == 1):
                for call in self.calls("d", thing).values():
                    self.refuse(BadKey, {"value": thing}, call)

    def test_keys_that_went(self):
        self.house.do("discard", "a", 1)
        self.refuse(BadKey, {"value": 1}, lambda: self.house.trace("a", 1))
        self.house.do("assign", "a = a - a")
        self.refuse(BadKey, {"value": 0}, lambda: self.house.trace("a", 0))

    def test_by_name(self):
        self.assertEqual(self.house.trace(key=1, name="a"), [(0, "a")])
        self.assertEqual(self.house.value_trace(key=1, name="d"), [(1, "d")])
        self.assertIs(explains(trace=[(0, "a")], key=1, name="a", house=self.house), True)
        self.assertIs(explains_value(trace=[(1, "d")], key=1, name="d", house=self.house), True)

    def test_a_new_list_at_each_call(self):
        for call in (lambda: self.house.trace("a", 1), lambda: self.house.value_trace("d", 1)):
            first = call()
            self.assertIs(type(first), list)
            before = list(first)
            first.append((9, "z"))
            first[0] = None
            self.assertEqual(call(), before)
        self.house.do("assign", "a = a")
        self.assertEqual(self.house.trace("a", 1), [(0, "a"), (4, "a")])


class TestDrawnHistories(TraceTest):
    def test_beside_a_plain_model(self):
        chance = random.Random(90)
        for _ in range(60):
            plain, house = PlainHouse(), House()
            for _ in range(60):
                deed = any_deed(chance, plain.kinds())
                plain.do(*deed)
                house.do(*deed)
                for name, held in plain.names.items():
                    traces = plain.traces(name)
                    values = None if isinstance(held, set) else {key: value for key, (_, value) in traces.items()}
                    self.check(house, name, {key: trace for key, (trace, _) in traces.items()}, values)

    def test_the_pairs_lead_back_to_the_deed(self):
        chance = random.Random(91)
        for _ in range(60):
            house = House.played(any_history(chance, 50))
            deeds = house.history()
            for name in house.names:
                content = house.content(name)
                for row in content.entries() if hasattr(content, "entries") else content.members():
                    trace = house.trace(name, row[0])
                    self.check_path(deeds, name, trace)
                    self.check_origin(deeds[trace[0][0]], trace[0], row)
                    if len(row) == 3:
                        self.check_path(deeds, name, house.value_trace(name, row[0]))

    def check_path(self, deeds, name, trace):
        self.assertTrue(trace)
        self.assertEqual(trace[-1][1], name)
        numbers = [number for number, _ in trace]
        self.assertEqual(numbers, sorted(set(numbers)))
        for number, place in trace[1:]:
            self.assertEqual(deeds[number][0], "assign")
            self.assertEqual(deeds[number][1].split("=")[0].strip(" @-&^|"), place)

    def check_origin(self, deed, first, row):
        """The element came in by this deed."""
        self.assertIn(deed[0], ("set", "dict", "add", "put", "default"))
        self.assertEqual(deed[1], first[1])
        came = [deed[2]] if deed[0] in ("add", "put", "default") else [item[:2] for item in deed[2]]
        self.assertEqual(next(element for element in came if element[0] == row[0]), row[:2])


class TestExplains(unittest.TestCase):
    def check(self, explaining, house, name, key, trace):
        self.assertIs(explaining(house, name, key, trace), True)
        self.assertIs(explaining(house, name, key, list(trace)), True)
        for thing in [*spoiled(trace), *ANY]:
            with self.subTest(thing):
                self.assertFalse(same(thing, trace))
                self.assertIs(explaining(house, name, key, thing), False)

    def test_what_is_nearly_the_trace(self):
        house = played(("set", "a", [(1, "x")]), ("dict", "d", [(1, "y", 5)]), "c = a", "d = look(c, d)", "d |= d")
        for name in ("a", "c", "d"):
            self.check(explains, house, name, 1, house.trace(name, 1))
        self.check(explains_value, house, "d", 1, house.value_trace("d", 1))

    def test_true_is_not_one(self):
        house = played(("set", "a", []), ("set", "b", [(1, "x")]), "a = b")
        self.assertIs(explains(house, "a", 1, [(1, "b"), (2, "a")]), True)
        self.assertIs(explains(house, "a", 1, [(True, "b"), (2, "a")]), False)
        house = played(("dict", "d", [(1, "x", 5)]), "d = d")
        self.assertIs(explains_value(house, "d", 1, [(0, "d"), (1, "d")]), True)
        self.assertIs(explains_value(house, "d", 1, [(False, "d"), (1, "d")]), False)
        self.assertIs(explains_value(house, "d", 1, [(0, "d"), (True, "d")]), False)

    def test_the_trace_of_the_element_is_not_that_of_the_value(self):
        house = two_dicts(("put", "d", (1, "x"), 9))
        self.assertIs(explains(house, "d", 1, [(0, "d")]), True)
        self.assertIs(explains(house, "d", 1, [(2, "d")]), False)
        self.assertIs(explains_value(house, "d", 1, [(2, "d")]), True)
        self.assertIs(explains_value(house, "d", 1, [(0, "d")]), False)

    def test_drawn_histories(self):
        chance = random.Random(92)
        for _ in range(10):
            plain = PlainHouse()
            for deed in any_history(chance, 40):
                plain.do(*deed)
            house = House.played(plain.deeds)
            for name in plain.names:
                for key, (trace, value_trace) in plain.traces(name).items():
                    self.assertIs(explains(house, name, key, trace), True)
                    if value_trace is not None:
                        self.assertIs(explains_value(house, name, key, value_trace), True)

    def test_what_was_passed_stays(self):
        house = two_sets()
        trace = [(0, "a")]
        explains(house, "a", 1, trace)
        self.assertEqual(trace, [(0, "a")])


if __name__ == "__main__":
    unittest.main()
