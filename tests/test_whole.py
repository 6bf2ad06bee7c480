"""What is promised over the whole program: points 1 to 3."""

import random
import re
import unittest

from equalunlike.checker import is_answer, is_verdict
from equalunlike.comparing import compare
from equalunlike.counting import counts_of, sample
from equalunlike.desk import Desk
from equalunlike.dicts import FormDict
from equalunlike.histories import history_text, read_history
from equalunlike.house import House
from equalunlike.programs import Program
from equalunlike.sets import FormSet
from equalunlike.solving import solve
from equalunlike.standing import is_sure, standing
from equalunlike.traces import explains, explains_value
from equalunlike.wanted import gives, shortest
from equalunlike.ways import choices, conditions, taken, ways
from anyprogram import INPUTS, Maker, any_programs
from plainhouse import KEYS, NAMES, any_history, told


class Exchange:
    """Names, forms and keys exchanged one to one."""

    def __init__(self, chance):
        names = [first + second for first in "pqrstuvw" for second in "mn"]
        self.names = dict(zip(NAMES + ["y"], chance.sample(names, len(NAMES) + 1)))
        self.forms = dict(zip(["x", "y", "z", "abcd", *"abcde"], chance.sample(["k", "l", "x", "ab", *"mnopq"], 9)))
        self.keys = dict(zip(range(KEYS), chance.sample(range(1000000), KEYS)))

    def text(self, text):
        words = re.split(r"([a-z]+)", text)
        return "".join([word if word in ("keys", "look") else self.names.get(word, word) for word in words])

    def element(self, element):
        return (self.keys[element[0]], self.forms[element[1]], *element[2:])

    def content(self, content):
        if isinstance(content, FormSet):
            return FormSet([self.element(row) for row in content.members()])
        return FormDict([self.element(row) for row in content.entries()])

    def deed(self, deed):
        word, *rest = deed
        if word == "assign":
            return (word, self.text(rest[0]))
        name, *rest = rest
        if word in ("set", "dict"):
            return (word, self.names[name], tuple(self.element(row) for row in rest[0]))
        if word == "discard":
            return (word, self.names[name], self.keys[rest[0]])
        if word == "drop":
            return (word, self.names[name])
        return (word, self.names[name], self.element(rest[0]), *rest[1:])

    def trace(self, trace):
        return [(deed, self.names[name]) for deed, name in trace]

    def program(self, program):
        kinds = dict(zip(program.inputs, program.input_kinds))
        return Program(
            *[self.text(row) for row in str(program).split("\n") if row],
            sets=[self.names[name] for name, kind in kinds.items() if kind == "set"],
            dicts=[self.names[name] for name, kind in kinds.items() if kind == "dict"],
            outputs=[self.names[name] for name in program.outputs],
        )

    def end(self, end):
        return self.names[end] if isinstance(end, str) else tuple(self.names[name] for name in end)


class TestExchanged(unittest.TestCase):
    def test_houses(self):
        chance = random.Random(120)
        for _ in range(40):
            exchange = Exchange(chance)
            deeds = any_history(chance, 40)
            one, other = House.played(deeds), House.played([exchange.deed(deed) for deed in deeds])
            self.assertEqual(set(other.names), {exchange.names[name] for name in one.names})
            self.assertEqual(other.history(), [exchange.deed(deed) for deed in one.history()])
            for name in one.names:
                content, turned = one.content(name), exchange.names[name]
                self.assertEqual(other.content(turned), exchange.content(content))
                for row in content.members() if isinstance(content, FormSet) else content.entries():
                    key = exchange.keys[row[0]]
                    self.assertEqual(other.trace(turned, key), exchange.trace(one.trace(name, row[0])))
                    if len(row) == 3:
                        trace = exchange.trace(one.value_trace(name, row[0]))
                        self.assertEqual(other.value_trace(turned, key), trace)

    def test_programs(self):
        chance = random.Random(121)
        for program in any_programs(chance, 60):
            exchange = Exchange(chance)
            other = exchange.program(program)
            self.assertEqual(choices(other), choices(program))
            for output in program.outputs:
                turned = exchange.names[output]
                self.assertEqual(is_sure(other, turned), is_sure(program, output))
                for pattern in range(1, program.patterns + 1):
                    wanted = [(path, exchange.end(end)) for path, end in ways(program, output, pattern)]
                    self.assertEqual(ways(other, turned, pattern), wanted)
                    wanted = sorted((exchange.end(end), counts) for end, counts in standing(program, output, pattern))
                    self.assertEqual(standing(other, turned, pattern), wanted)

    def test_runs(self):
        chance = random.Random(122)
        for program in any_programs(chance, 100):
            exchange = Exchange(chance)
            contents = {}
            for name, kind in zip(program.inputs, program.input_kinds):
                keys = [key for key in range(KEYS) if chance.random() < 0.6]
                rows = [(key, chance.choice("xyz"), chance.randrange(9)) for key in keys]
                contents[name] = FormDict(rows) if kind == "dict" else FormSet([row[:2] for row in rows])
            turned = {exchange.names[name]: exchange.content(content) for name, content in contents.items()}
            other = exchange.program(program)
            wanted = {exchange.names[name]: exchange.content(value) for name, value in program.run(**contents).items()}
            self.assertEqual(other.run(**turned), wanted)
            self.assertEqual(counts_of(other, **turned), counts_of(program, **contents))

    def test_verdicts(self):
        chance = random.Random(123)
        for _ in range(60):
            sets, names = chance.choice(INPUTS)
            outputs = [[*sets, *names][0]]
            one, other = (Maker(chance).program(sets, names, outputs=outputs) for _ in range(2))
            if one.output_kinds == other.output_kinds:
                exchange = Exchange(chance)
                turned = compare(exchange.program(one), exchange.program(other))
                verdict = compare(one, other)
                if verdict[0] == "differ":
                    wanted = (*verdict[:2], exchange.names[verdict[2]], verdict[3])
                else:
                    wanted = ("alike", [(exchange.names[row[0]], *row[1:]) for row in verdict[1]])
                self.assertEqual(turned, wanted)

    def test_tables(self):
        for table, other in (
            ((None, "b", "a"), (None, "x", "qq")), (("a", "b", "b"), ("qq", "x", "x")), ((None,) * 3, (None,) * 3),
        ):
            length, text = shortest(["a", "b"], table)
            self.assertEqual(shortest(["qq", "x"], other)[0], length)
            self.assertIs(gives(["qq", "x"], text.replace("a", "qq").replace("b", "x"), other), True)


class TestThePromise(unittest.TestCase):
    def test_elements_and_values_are_those_that_the_ways_tell(self):
        chance = random.Random(124)
        for program in any_programs(chance, 100):
            counts = tuple(chance.randint(0, 3) for _ in range(program.patterns))
            contents = sample(program, counts)
            self.assertEqual(counts_of(program, **contents), counts)
            result = program.run(**contents)
            keys = [pattern for pattern, count in enumerate(counts, start=1) for _ in range(count)]
            for output in program.outputs:
                for key, pattern in enumerate(keys):
                    way = taken(program, output, pattern, counts)
                    self.assertIs(key in result[output], way is not None)
                    if way is not None and isinstance(way[1], tuple):
                        form, source = way[1]
                        self.assertEqual(result[output].form_of(key), form)
                        self.assertEqual(program.inputs[result[output][key]], source)
                    elif way is not None:
                        self.assertEqual(result[output].form_of(key), way[1])

    def test_each_way_is_possible_or_impossible_and_never_both(self):
        chance = random.Random(125)
        found = {"possible": 0, "impossible": 0}
        for program in any_programs(chance, 80):
            for output in program.outputs:
                for pattern in range(1, program.patterns + 1):
                    ends = {end for end, _ in standing(program, output, pattern)}
                    possible = set()
                    for path, end in ways(program, output, pattern):
                        question = (program.patterns, conditions(program, path), pattern)
                        answer = solve(*question)
                        self.assertIs(is_answer(*question, answer), True)
                        found[answer[0]] += 1
                        if answer[0] == "possible":
                            self.assertEqual(taken(program, output, pattern, answer[1]), (path, end))
                            possible.add(end)
                    self.assertEqual(ends, possible)
        self.assertGreater(min(found.values()), 10)

    def test_alike_programs_return_the_same_and_others_differ_at_the_counts(self):
        chance = random.Random(126)
        found = {"alike": 0, "differ": 0}
        for _ in range(150):
            one, other = (Maker(chance).program(["a", "b"], [], outputs=["a"]) for _ in range(2))
            verdict = compare(one, other)
            self.assertIs(is_verdict(one, other, verdict), True)
            found[verdict[0]] += 1
            if verdict[0] == "differ":
                contents = sample(one, verdict[1])
                self.assertNotEqual(one.run(**contents), other.run(**contents))
            for counts in ((1, 1, 1), (2, 1, 1), (1, 2, 1), (0, 3, 2), (5, 0, 1)):
                contents = sample(one, counts)
                if verdict[0] == "alike":
                    self.assertEqual(one.run(**contents), other.run(**contents))
        self.assertGreater(min(found.values()), 10)

    def test_each_element_and_value_of_a_house_has_a_trace(self):
        chance = random.Random(127)
        for _ in range(20):
            house = House.played(any_history(chance, 50))
            for name in house.names:
                content = house.content(name)
                for row in content.members() if isinstance(content, FormSet) else content.entries():
                    self.assertIs(explains(house, name, row[0], house.trace(name, row[0])), True)
                    if len(row) == 3:
                        self.assertIs(explains_value(house, name, row[0], house.value_trace(name, row[0])), True)


class TestSharing(unittest.TestCase):
    def spoil(self, value):
        """Changes a list or dict and each list and dict in it."""
        if isinstance(value, dict):
            for item in list(value.values()):
                self.spoil(item)
            value.clear()
        elif isinstance(value, (list, tuple)):
            for item in value:
                self.spoil(item)
            if isinstance(value, list):
                value.append("more")

    def test_returned_lists_and_dicts_are_new(self):
        program = Program("c = a & b", "e = c | a", sets=["a", "b"], outputs=["c", "e"])
        house = House.played([("set", "a", [(1, "x")]), ("dict", "d", [(1, "x", 5)]), ("assign", "a = a")])
        content = FormSet([(1, "x"), (2, "x")])
        entries = FormDict([(1, "x", 5)])
        for call in (
            lambda: content.members(), lambda: entries.entries(), lambda: choices(program),
            lambda: ways(program, "c", 3), lambda: conditions(program, ((0, "left"),)),
            lambda: program.run(a=content, b=content), lambda: sample(program, (1, 2, 1)),
            lambda: solve(3, [((), (2,), "right")], 2), lambda: solve(3, [((1,), (2,), "left")], 3),
            lambda: compare(program, program), lambda: standing(program, "c", 3), lambda: standing(program, "c", 2),
            lambda: house.history(), lambda: house.trace("a", 1), lambda: house.value_trace("d", 1),
            lambda: read_history("set a 1:x\ndict d"), lambda: read_history(""), lambda: house.names,
        ):
            wanted = repr(call())
            self.spoil(call())
            self.assertEqual(repr(call()), wanted)

    def test_what_was_passed_stays(self):
        names, table, given, asked = ["a", "b"], (None, None, "a"), [(2, "x"), (1, "y")], [((1,), (2,), "left")]
        entries, outputs, deeds = [(2, "x", 5)], ["a", "d"], [("set", "a", [(1, "x")]), ("drop", "a")]
        trace, answer = [(0, "a")], ("impossible", [1])
        passed = [names, table, given, asked, entries, outputs, deeds, trace, answer]
        before = repr(passed)
        house = House.played(deeds)
        house.do("set", "a", given)
        house.do("dict", "d", entries)
        house.program(4, outputs=outputs)
        explains(house, "a", 1, trace)
        solve(3, asked, 3)
        is_answer(3, asked, 3, answer)
        gives(names, "a @ b", table)
        shortest(names, table)
        history_text(deeds)
        Program(sets=names, outputs=names)
        self.assertEqual(repr(passed), before)
        given.append((3, "z"))
        entries.append((3, "z", 1))
        deeds[0][2].clear()
        self.assertEqual([str(house.content("a")), str(house.content("d"))], ["1:y 2:x", "2:x=5"])
        self.assertEqual(house.history()[0], ("set", "a", ((1, "x"),)))

    def test_two_houses_share_no_state(self):
        chance = random.Random(128)
        deeds = any_history(chance, 30)
        one, other = House.played(deeds), House.played(deeds)
        before = told(other)
        for _ in range(20):
            one.undo()
        one.do("set", "a", [(7, "x")])
        one.do("assign", "a = a")
        self.assertEqual(told(other), before)
        self.assertEqual(told(House()), told(House()))

    def test_a_house_and_what_it_told(self):
        house = House.played([("set", "a", [(1, "x")]), ("assign", "b = a")])
        program = house.program(1, outputs=["b"])
        content, history, twin = house.content("a"), house.history(), house.twin()
        house.do("add", "a", (2, "y"))
        house.do("assign", "b |= a")
        self.assertEqual([str(content), len(history), str(program)], ["1:x", 2, "b = a"])
        self.assertEqual(str(twin.content("b")), "1:x")

    def test_results_do_not_depend_on_earlier_calls(self):
        program = Program("c = a & b", sets=["a", "b"], outputs=["c"])

        def results():
            desk = Desk()
            return [
                compare(program, program), standing(program, "c", 3), shortest(["a", "b"], (None, "b", "a")),
                solve(3, [((1,), (2,), "left")], 3), desk.say("set a 1:x"), desk.say("history"),
            ]

        first = results()
        for _ in range(3):
            self.assertEqual(results(), first)


if __name__ == "__main__":
    unittest.main()
