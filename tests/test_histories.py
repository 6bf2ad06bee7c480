"""Texts of deeds: point 22."""

import random
import unittest

from equalunlike.errors import BadText
from equalunlike.histories import history_text, read_history
from equalunlike.house import House
from plainhouse import any_history
from samples import ANY
from spoiling import same

GREATEST = 10 ** 40 - 1

# Rows and the deeds of which they are the texts.
ROWS = [
    ("set a 1:x 2:y", ("set", "a", ((1, "x"), (2, "y")))), ("set a", ("set", "a", ())),
    ("set abcd 0:abcd", ("set", "abcd", ((0, "abcd"),))),
    ("set a 2:x 1:y 2:z 2:x", ("set", "a", ((2, "x"), (1, "y"), (2, "z"), (2, "x")))),
    ("set set 999999:set", ("set", "set", ((999999, "set"),))), ("dict d 1:x=5", ("dict", "d", ((1, "x", 5),))),
    ("dict d", ("dict", "d", ())),
    ("dict dict 1:x=-7 0:y=0 1:z=12", ("dict", "dict", ((1, "x", -7), (0, "y", 0), (1, "z", 12)))),
    (f"dict d 1:x={GREATEST} 2:x={-GREATEST}", ("dict", "d", ((1, "x", GREATEST), (2, "x", -GREATEST)))),
    ("add a 3:z", ("add", "a", (3, "z"))), ("discard a 3", ("discard", "a", 3)), ("discard a 0", ("discard", "a", 0)),
    ("discard a 999999", ("discard", "a", 999999)), ("put d 1:x 5", ("put", "d", (1, "x"), 5)),
    ("put d 1:x 0", ("put", "d", (1, "x"), 0)), (f"put d 1:x {-GREATEST}", ("put", "d", (1, "x"), -GREATEST)),
    ("default d 1:x 5", ("default", "d", (1, "x"), 5)), ("default d 10:x -1", ("default", "d", (10, "x"), -1)),
    ("assign c = a & b", ("assign", "c = a & b")), ("assign c=a", ("assign", "c=a")),
    ("assign  c = a ", ("assign", " c = a ")),
    ("assign      c   &=   ( a )    ", ("assign", "     c   &=   ( a )    ")),
    ("assign a = keys( look(a,d) )", ("assign", "a = keys( look(a,d) )")),
    ("drop c", ("drop", "c")), ("drop drop", ("drop", "drop")), ("drop add", ("drop", "add")),
]

# Texts of one row that are the texts of no deed.
NO_ROWS = [
    " ", "  ", "set", "set ", " set a", "set  a", "set a ", "set a  1:x", "set a 1:x ", "set a 1:x  2:y",
    "set a 1:x,2:y",
    "Set a", "set A", "set keys", "set look", "set self", "set abcde", "set a 1", "set a 1:", "set a :x", "set a 1:X",
    "set a 1:keys", "set a 1:abcde", "set a 01:x", "set a -1:x", "set a -0:x", "set a +1:x", "set a 1000000:x",
    "set a 1 :x", "set a 1: x", "set a 1:x:y", "set a 1:x=5", "set a 1;x", "set a (1,x)", "set a 1:x 2",
    "set a empty",
    "set a 00:x", "set a 1_0:x", "set a 1.0:x", "set a x:1", "set a 0x1:x", "set a 1:x\r", "set a\t1:x",
    "dict", "dict d ", "dict  d", "dict d 1:x", "dict d 1:x=", "dict d 1:x=05", "dict d 1:x=-0", "dict d 1:x=+5",
    "dict d 1:x=--5", "dict d 1:x=-", "dict d 1:x= 5", "dict d 1:x =5", "dict d 1:x=5 ", "dict d 1:x=5=6",
    "dict d 1=5:x", "dict d 01:x=5", "dict d 1000000:x=5", "dict d 1:keys=5", "dict d 1:x=1" + "0" * 40,
    "dict d 1:x=-1" + "0" * 40,
    "dict d 1:x=1_0", "dict d 1:x=5 2:y", "dict d 1:x=y", "dict d 1:x=5.0",
    "add", "add a", "add a ", "add a 1", "add a 1:x 2:y", "add a 1:x ", "add a 1:x=5", "add a  1:x", "add 1:x a",
    "add a 01:x", "add a 1000000:x", "add a 1:look", "add keys 1:x",
    "discard", "discard a", "discard a ", "discard a -1", "discard a 01", "discard a 1000000", "discard a 1:x",
    "discard a 1 2", "discard a +1", "discard a 00", "discard a -0", "discard A 1", "discard a x",
    "put", "put d", "put d 1:x", "put d 1:x ", "put d 1:x=5", "put d 1:x 05", "put d 1:x -0", "put d 1:x 5 6",
    "put d 1 5",
    "put d  1:x 5", "put d 1:x  5", "put d 1:x +5", "put d 1:x 1" + "0" * 40, "put d 1000000:x 5", "put d 01:x 5",
    "put d 1:x x", "default d 1:x", "default d 1:x 05", "default d 1:x=5", "default d 1:x 5 ", "default self 1:x 5",
    "assign", "assign ", "assign c", "assign c =", "assign = a", "assign c == a", "assign c | = a", "assign keys = a",
    "assign c = keys", "assign c = (a", "assign c = a)", "assign c = a b", "assign\tc = a", "assignc = a",
    "Assign c = a",
    "assign c = " + "(" * 9 + "a" + ")" * 9, "assign c = " + "a|" * 99 + "a", "assign c = a\t", "assign c := a",
    "drop", "drop ", "drop a ", "drop  a", "drop a b", "drop A", "drop keys", " drop a", "drop 1", "drop a1",
    "undo", "show a", "trace a 1", "history", "names", "same a b", "empty", "ok", "a", "c = a", "set a;drop a",
    "drop a ;",
]


class TestText(unittest.TestCase):
    def test_each_kind_of_deed(self):
        for row, deed in ROWS:
            with self.subTest(row):
                self.assertEqual(history_text([deed]), row)
                self.assertTrue(same(read_history(row), [deed]))

    def test_several_rows(self):
        deeds = [deed for _, deed in ROWS]
        text = "\n".join(row for row, _ in ROWS)
        self.assertEqual(history_text(deeds), text)
        self.assertTrue(same(read_history(text), deeds))

    def test_no_deeds(self):
        self.assertEqual([history_text([]), read_history("")], ["", []])

    def test_deeds_with_lists(self):
        deeds = [("set", "a", [(1, "x")]), ("dict", "d", [(1, "x", -5)])]
        self.assertEqual(history_text(deeds), "set a 1:x\ndict d 1:x=-5")
        self.assertEqual(deeds, [("set", "a", [(1, "x")]), ("dict", "d", [(1, "x", -5)])])

    def test_written_and_read_again(self):
        chance = random.Random(100)
        for _ in range(60):
            deeds = any_history(chance, 30)
            text = history_text(deeds)
            self.assertEqual(len(text.split("\n")), 30)
            self.assertTrue(same(read_history(text), deeds))
            house = House.played(read_history(text))
            self.assertEqual(str(house), text)
            self.assertEqual(house.history(), deeds)

    def test_the_history_of_a_house(self):
        house = House.played([deed for _, deed in ROWS[:6]])
        self.assertEqual(str(house), history_text(house.history()))
        self.assertEqual(house, House.played(read_history(str(house))))

    def test_a_new_list_at_each_call(self):
        first = read_history("drop a")
        first.append("more")
        self.assertEqual(read_history("drop a"), [("drop", "a")])
        read_history("").append("more")
        self.assertEqual(read_history(""), [])

    def test_by_name(self):
        self.assertEqual(history_text(deeds=[("drop", "a")]), "drop a")
        self.assertEqual(read_history(text="drop a"), [("drop", "a")])

    def test_a_deed_need_not_be_possible(self):
        self.assertEqual(read_history("drop a\ndrop a"), [("drop", "a"), ("drop", "a")])


class TestBadText(unittest.TestCase):
    def refuse(self, text, row):
        with self.subTest(text), self.assertRaises(BadText) as caught:
            read_history(text)
        self.assertEqual(vars(caught.exception), {"row": row})
        self.assertIs(type(caught.exception.row), int)

    def test_rows_of_no_deed(self):
        for text in NO_ROWS:
            self.refuse(text, 0)
            self.refuse(f"drop a\n{text}", 1)
            self.refuse(f"drop a\nset a 1:x\n{text}\ndrop a", 2)

    def test_the_first_row_that_is_none(self):
        self.refuse("drop a\nx\ny\ndrop a", 1)
        self.refuse("x\ny", 0)

    def test_empty_rows(self):
        self.refuse("drop a\n\ndrop a", 1)
        self.refuse("drop a\n", 1)
        self.refuse("\ndrop a", 0)
        self.refuse("\n", 0)
        self.refuse("drop a\ndrop b\n\n", 2)

    def test_what_is_no_string(self):
        for thing in [*ANY, ["drop a"], ("drop a",), [("drop", "a")], {0: "drop a"}, None, True, 5]:
            if not isinstance(thing, str):
                self.refuse(thing, -1)

    def test_any_string(self):
        for thing in ANY:
            if isinstance(thing, str) and thing:
                self.refuse(thing, 0)


if __name__ == "__main__":
    unittest.main()
