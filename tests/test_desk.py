"""Desks: point 23, with the texts of point 22."""

import random
import unittest

from equalunlike.desk import Desk
from equalunlike.errors import BadKey, BadKinds, BadName, NoName, NoRow, NothingToUndo, WrongKind
from equalunlike.histories import history_text
from equalunlike.house import House
from plainhouse import NAMES, any_history
from samples import ANY
from test_histories import NO_ROWS, ROWS

START = [
    "set a 2:y 1:x", "set b 1:y 2:y 3:y", "dict d 2:y=-6 1:x=5", "assign c = a & b", "assign a = c | b",
    "put d 1:q 7",
    "assign e = look(b, d)",
]


class DeskTest(unittest.TestCase):
    def setUp(self):
        self.desk = Desk()
        for row in START:
            self.assertEqual(self.desk.say(row), "ok")

    def answers(self, *pairs):
        for row, wanted in pairs:
            with self.subTest(row):
                self.assertEqual(self.desk.say(row), wanted)

    def everything(self):
        """All that the desk tells."""
        names = self.desk.say("names")
        rows = [f"show {name}" for name in names.split(" ")] if names != "empty" else []
        return [names, self.desk.say("history"), *[self.desk.say(row) for row in rows]]

    def refuse(self, error, fields, row):
        before = self.everything()
        with self.subTest(row), self.assertRaises(error) as caught:
            self.desk.say(row)
        self.assertEqual(vars(caught.exception), fields)
        self.assertEqual(self.everything(), before)


class TestDeeds(DeskTest):
    def test_each_deed(self):
        self.answers(
            ("show a", "1:x 2:y 3:y"), ("show b", "1:y 2:y 3:y"), ("show c", "1:x 2:y"), ("show d", "1:x=7 2:y=-6"),
            ("show e", "1:y=7 2:y=-6"), ("add a 9:z", "ok"), ("discard a 1", "ok"), ("show a", "2:y 3:y 9:z"),
            ("default d 1:x 8", "ok"), ("default d 0:z 8", "ok"), ("discard d 2", "ok"), ("show d", "0:z=8 1:x=7"),
            ("set c", "ok"), ("show c", "empty"), ("dict c", "ok"), ("show c", "empty"), ("drop c", "ok"),
            ("names", "a b d e"), ("assign    a   -=  ( b )", "ok"), ("show a", "9:z"),
            ("dict d 1:x=" + "9" * 40, "ok"), ("show d", "1:x=" + "9" * 40), ("discard a 1", "ok"),
            ("add a 9:x", "ok"),
        )

    def test_histories_row_by_row(self):
        chance = random.Random(110)
        for _ in range(20):
            deeds = any_history(chance, 30)
            desk, house = Desk(), House()
            for deed in deeds:
                self.assertEqual(desk.say(history_text([deed])), "ok")
                house.do(*deed)
                for name in NAMES:
                    if name in house.names:
                        self.assertEqual(desk.say(f"show {name}"), str(house.content(name)))
            self.assertEqual(desk.say("history"), " ; ".join(str(house).split("\n")))
            self.assertEqual(desk.say("names"), " ".join(house.names))


class TestQuestions(DeskTest):
    def test_an_empty_desk(self):
        self.desk = Desk()
        self.answers(("history", "empty"), ("names", "empty"))
        self.refuse(NothingToUndo, {}, "undo")
        self.refuse(NoName, {"name": "a"}, "show a")

    def test_undo(self):
        self.answers(
            ("undo", "assign"), ("undo", "put"), ("show d", "1:x=5 2:y=-6"), ("undo", "assign"), ("undo", "assign"),
            ("names", "a b d"), ("undo", "dict"), ("undo", "set"), ("undo", "set"), ("names", "empty"),
            ("history", "empty"), ("set a", "ok"), ("add a 1:x", "ok"), ("discard a 1", "ok"), ("undo", "discard"),
            ("undo", "add"), ("drop a", "ok"), ("undo", "drop"), ("dict d", "ok"), ("default d 1:x 5", "ok"),
            ("undo", "default"), ("show d", "empty"),
        )

    def test_show(self):
        self.answers(
            ("set z 10:x 9:y 100:z 0:abcd", "ok"), ("show z", "0:abcd 9:y 10:x 100:z"),
            ("dict z 10:x=0 9:y=-1 100:z=2", "ok"), ("show z", "9:y=-1 10:x=0 100:z=2"), ("dict z", "ok"),
            ("show z", "empty"),
        )

    def test_trace(self):
        self.answers(
            ("trace a 1", "0:a 3:c 4:a"), ("trace a 3", "1:b 4:a"), ("trace c 1", "0:a 3:c"), ("trace b 2", "1:b"),
            ("trace d 1", "2:d"), ("valuetrace d 1", "5:d"), ("valuetrace d 2", "2:d"), ("trace e 1", "1:b 6:e"),
            ("valuetrace e 1", "5:d 6:e"), ("set z 999999:x 0:x", "ok"), ("trace z 999999", "7:z"),
            ("trace z 0", "7:z"),
        )

    def test_history(self):
        self.answers(("history", " ; ".join(START)), ("assign   z=a ", "ok"))
        self.answers(("history", " ; ".join([*START, "assign   z=a "])))
        self.desk = Desk()
        self.answers(("set a", "ok"), ("history", "set a"), ("drop a", "ok"), ("history", "set a ; drop a"))

    def test_names(self):
        self.answers(("names", "a b c d e"), ("set ab", "ok"), ("drop c", "ok"), ("names", "a ab b d e"))

    def test_same(self):
        self.answers(
            ("same a a", "yes"), ("same d d", "yes"), ("same a b", "equal"), ("same b a", "equal"),
            ("same a c", "no"),
            ("same d e", "equal"), ("same e d", "equal"), ("same a d", "no"), ("same d a", "no"),
            ("assign f = e", "ok"),
            ("same e f", "yes"), ("put f 1:z 8", "ok"), ("same e f", "no"), ("same d f", "no"),
            ("assign f = keys(e)", "ok"), ("same f e", "no"), ("set g", "ok"), ("dict h", "ok"), ("same g h", "no"),
            ("same h g", "no"), ("set i", "ok"),
            ("same g i", "yes"), ("add g 1:x", "ok"), ("same g i", "no"), ("add i 1:y", "ok"), ("same g i", "equal"),
        )

    def test_words_as_names(self):
        self.answers(
            ("set set 1:x", "ok"), ("dict show", "ok"), ("show show", "empty"), ("trace set 1", "7:set"),
            ("set undo", "ok"), ("show undo", "empty"), ("set same", "ok"), ("same same same", "yes"),
            ("set drop", "ok"), ("drop drop", "ok"), ("undo", "drop"), ("names", "a b c d drop e same set show undo"),
        )


class TestNoRow(DeskTest):
    def test_rows_that_are_none(self):
        further = ("undo", "show a", "trace a 1", "history", "names", "same a b")
        for row in NO_ROWS:
            if row not in further:
                self.refuse(NoRow, {}, row)

    def test_further_rows(self):
        for row in (
            "", "undo ", " undo", "undo a", "undo undo", "Undo", "show", "show ", "show  a", "show a ", " show a",
            "show a b", "show A", "show keys", "show self", "show abcde", "show 1", "show a1", "trace", "trace a",
            "trace a ",
            "trace 1 a", "trace a 01", "trace a -1", "trace a -0", "trace a 00", "trace a +1", "trace a 1000000",
            "trace a 10000000000", "trace a 1 ", "trace  a 1", "trace a  1", "trace a 1 2", "trace a x",
            "trace a 1:x",
            "trace keys 1", "trace a " + "1" * 50, "valuetrace", "valuetrace d", "valuetrace d 01", "valuetrace d -1",
            "valuetrace d 1000000", "valuetrace d 1 ", "valuetrace d 1:x", "value_trace d 1", "value trace d 1",
            "history ", " history", "history a", "History", "names ", "names a", " names", "same", "same a",
            "same a ",
            "same a b ", "same  a b", "same a  b", "same a b c", "same a A", "same keys a", "same a self", "ok",
            "empty",
            "undo\n", "show a\n", "drop q\ndrop q", "history\nnames", "help",
        ):
            self.refuse(NoRow, {}, row)

    def test_any_value(self):
        for thing in [*ANY, None, True, 0, ["undo"], ("undo",), {"undo": 1}, ["names"], b"undo"]:
            self.refuse(NoRow, {}, thing)

    def test_no_row_comes_before_the_errors_of_the_house(self):
        for row in ("show q ", "trace q 01", "same q A", "add q 1:X", "drop q r", "assign q = r |", "valuetrace a -1"):
            self.refuse(NoRow, {}, row)
        self.desk = Desk()
        self.refuse(NoRow, {}, "undo ")


class TestErrors(DeskTest):
    def test_no_name(self):
        for row in (
            "show q", "trace q 1", "valuetrace q 1", "drop q", "add q 1:x", "discard q 1", "put q 1:x 5",
            "default q 1:x 5", "same q a", "same a q", "same q r", "same q q", "same d q",
        ):
            self.refuse(NoName, {"name": "q"}, row)
        self.refuse(NoName, {"name": "r"}, "same r q")

    def test_other_errors_of_the_house(self):
        for row, error, fields in (
            ("trace a 7", BadKey, {"value": 7}), ("trace a 999999", BadKey, {"value": 999999}),
            ("valuetrace d 7", BadKey, {"value": 7}), ("valuetrace a 1", WrongKind, {"name": "a"}),
            ("valuetrace a 7", WrongKind, {"name": "a"}), ("add d 1:x", WrongKind, {"name": "d"}),
            ("put a 1:x 5", WrongKind, {"name": "a"}), ("default a 1:x 5", WrongKind, {"name": "a"}),
            ("assign z = q | r", BadName, {"place": 0, "name": "q"}), ("assign z = a | d", BadKinds, {"place": 0}),
            ("assign z |= a", BadName, {"place": 0, "name": "z"}),
        ):
            self.refuse(error, fields, row)

    def test_nothing_to_undo(self):
        for _ in START:
            self.desk.say("undo")
        self.refuse(NothingToUndo, {}, "undo")


class TestDesks(unittest.TestCase):
    def test_two_desks_share_nothing(self):
        one, other = Desk(), Desk()
        one.say("set a 1:x")
        other.say("dict a 2:y=5")
        one.say("assign b = a")
        other.say("undo")
        other.say("set c")
        self.assertEqual([one.say("names"), other.say("names")], ["a b", "c"])
        self.assertEqual([one.say("history"), other.say("history")], ["set a 1:x ; assign b = a", "set c"])

    def test_each_text_of_a_deed_is_a_row(self):
        for row, deed in ROWS:
            desk = Desk()
            if deed[0] in ("set", "dict"):
                self.assertEqual([desk.say(row), desk.say("history")], ["ok", row])
            else:
                with self.subTest(row), self.assertRaises((NoName, BadName)):
                    desk.say(row)

    def test_by_name(self):
        self.assertEqual(Desk().say(row="names"), "empty")


if __name__ == "__main__":
    unittest.main()
