"""Expressions and rows: point 7."""

import ast
import itertools
import random
import unittest

from equalunlike.errors import BadRow
from equalunlike.grammar import read_expression, read_row, show_expression
from samples import ANY

# From the operator that binds tightest.
TIGHTEST_FIRST = ["@", "-", "&", "^", "|"]
SIGNS = {ast.MatMult: "@", ast.Sub: "-", ast.BitAnd: "&", ast.BitXor: "^", ast.BitOr: "|"}

NO_EXPRESSIONS = [
    "", " ", "   ", "()", "( )", "(", ")", "(a", "a)", "((a)", "(a))", ")a(", "a b", "a (b)", "(a) b", "(a)(b)", "a(b)",
    "|", "a |", "| a", "a | | b", "a || b", "a & & b", "a - - b", "- a", "-a", "a @", "@ a", "a ^ ^ b", "a |& b",
    "a | ) b", "a | (b", "a + b", "a * b", "a / b", "a = b", "a == b", "a |= b", "= a", "a =", "a : b", "a;b", "a.b",
    "a,b", "a, b", "(a, b)", ",", ",a", "a,", "(a,)",
    "keys", "look", "self", "keys a", "keys | a", "a | keys", "look | a", "a & self", "(self)", "(keys)", "keys(keys)",
    "keys(self)", "keys()", "keys( )", "keys(a", "keys a)", "keys(a, b)", "keys(a,)", "keys(,a)", "keys(a b)",
    "keys(a)(b)", "keys(a) b", "(keys)(a)", "keys keys(a)", "keysa(a)", "akeys(a)", "key(a)", "Keys(a)", "self(a)",
    "look()", "look(a)", "look(a,)", "look(,a)", "look(a b)", "look(a, b, c)", "look(a, b,)", "look(a,, b)",
    "look(a, b", "look(a, (b)", "look((a, b))", "look(a; b)", "look a, b", "look(look, a)",
    "abcde", "a | abcde", "aaaaaaaaaa", "A", "aB", "a1", "1", "0", "a_b", "_", "a'", "a | 'b'", "\"a\"",
    "a\n", "\na", "\n", "a\n| b", "a |\nb", "\t", "a\t", "a\t| b", "a |\tb", "keys\n(a)", "keys(\ta)", "a\r", "a\x0b",
    "a\x0c| b", "a\xa0| b", "\xe9", "a | \xe4", "k eys(a)", "lo ok(a, b)", "a # b", "a ~ b", "~a", "not a", "[a]",
    "{a}",
]

NO_ROWS = [
    "", " ", "=", "c", "c =", "= a", "=a", "c = ", " = a", "c a", "c | a", "c == a", "c = = a", "c = a = b",
    "c = a == b",
    "c = d |= a", "(c) = a", "c, d = a", "c d = a", "c | d = a", "c | = a", "c |  = a", "c ||= a", "c | |= a", "c =| a",
    "c = | a", "|= a", " |= a", "c |=", "c |= ", "c |= = a", "c |== a", "c + = a", "c += a", "c *= a", "c /= a",
    "c := a",
    "c <= a", "c != a", "c @@= a", "c -- = a", "c &&= a", "c &^= a", "keys = a", "look = a", "self = a", "keys |= a",
    "self -= a", "keys(c) = a", "abcde = a", "C = a", "c1 = a", "1 = a", "\nc = a", "c\n= a", "c =\na", "c = a\n",
    "c\t= a",
    "c\t|= a", "c |=\ta", "\tc = a", "c = a;", "c = a, b", "c = (a", "c = a)", "(c = a)", "c = a b", "c = keys",
    "c = self",
    "c (= a", "c | (= a)", "c = a | = b", "c = a, d = b", "c.d = a", "c[a] = a",
]


def tree_of(node):
    """An expression as Python's own parser has it; the operators bind there as here."""
    if isinstance(node, ast.Name):
        return node.id
    if isinstance(node, ast.Call):
        return (node.func.id, *map(tree_of, node.args))
    return (SIGNS[type(node.op)], tree_of(node.left), tree_of(node.right))


def python_read(text):
    return tree_of(ast.parse(text.strip(" "), mode="eval").body)


def closed(node):
    """The text of an expression with parentheses around each operation."""
    if isinstance(node, str):
        return node
    word, *parts = node
    if word in ("keys", "look"):
        return f"{word}({', '.join(map(closed, parts))})"
    return f"({closed(parts[0])} {word} {closed(parts[1])})"


def any_expression(chance, depth):
    if depth == 0 or chance.random() < 0.25:
        return chance.choice(["a", "b", "ab", "zzzz", "key", "loo"])
    word = chance.choice(["@", "-", "&", "^", "|", "@", "-", "&", "^", "|", "keys", "look"])
    return (word, *[any_expression(chance, depth - 1) for _ in range(1 if word == "keys" else 2)])


def spread(text, chance):
    """The text with any number of spaces wherever they may stand."""
    words = text.replace("(", " ( ").replace(")", " ) ").replace(",", " , ").split()
    return "".join(" " * chance.choice((0, 0, 1, 2, 5)) + word for word in words) + " " * chance.choice((0, 3))


def without(text, places):
    return "".join(character for at, character in enumerate(text) if at not in places)


def pairs_of(text):
    """The places of the parentheses that do not belong to keys or look."""
    opened = []
    for at, character in enumerate(text):
        if character == "(":
            opened.append(at)
        elif character == ")":
            begin = opened.pop()
            if begin == 0 or not text[begin - 1].isalpha():
                yield begin, at


class ReadingTest(unittest.TestCase):
    def refuse(self, read, text):
        with self.subTest(text), self.assertRaises(BadRow) as caught:
            read(text)
        self.assertIs(type(caught.exception.place), int)
        self.assertEqual(caught.exception.place, 0)


class TestReadExpression(ReadingTest):
    def test_names(self):
        for name in ("a", "z", "ab", "abcd", "key", "loo", "sel", "selv", "keyz"):
            self.assertEqual(read_expression(name), name)
            self.assertEqual(read_expression(f"  {name}   "), name)
            self.assertEqual(read_expression(f"({name})"), name)

    def test_each_operator(self):
        for sign in TIGHTEST_FIRST:
            for text in (f"a {sign} b", f"a{sign}b", f" a{sign}  b ", f"(a){sign}(b)", f"(a {sign} b)"):
                self.assertEqual(read_expression(text), (sign, "a", "b"))

    def test_keys_and_look(self):
        self.assertEqual(read_expression("keys(d)"), ("keys", "d"))
        self.assertEqual(read_expression("look(s, d)"), ("look", "s", "d"))
        self.assertEqual(read_expression("  keys  (  d  )  "), ("keys", "d"))
        self.assertEqual(read_expression(" look ( s,d ) "), ("look", "s", "d"))
        self.assertEqual(read_expression("look(s   ,   d)"), ("look", "s", "d"))
        self.assertEqual(read_expression("keys((d))"), ("keys", "d"))
        self.assertEqual(
            read_expression("look(keys(d) & a, look(b, d) | d)"),
            ("look", ("&", ("keys", "d"), "a"), ("|", ("look", "b", "d"), "d")),
        )
        self.assertEqual(read_expression("keys(d) @ keys(e)"), ("@", ("keys", "d"), ("keys", "e")))

    def test_how_tightly_each_binds(self):
        for tight, loose in itertools.combinations(TIGHTEST_FIRST, 2):
            self.assertEqual(read_expression(f"a {tight} b {loose} c"), (loose, (tight, "a", "b"), "c"))
            self.assertEqual(read_expression(f"a {loose} b {tight} c"), (loose, "a", (tight, "b", "c")))
            self.assertEqual(read_expression(f"(a {loose} b) {tight} c"), (tight, (loose, "a", "b"), "c"))
            self.assertEqual(read_expression(f"a {tight} (b {loose} c)"), (tight, "a", (loose, "b", "c")))

    def test_all_at_once(self):
        wanted = ("|", "a", ("^", "b", ("&", "c", ("-", "d", ("@", "e", "f")))))
        self.assertEqual(read_expression("a | b ^ c & d - e @ f"), wanted)
        wanted = ("|", ("^", ("&", ("-", ("@", "a", "b"), "c"), "d"), "e"), "f")
        self.assertEqual(read_expression("a@b-c&d^e|f"), wanted)

    def test_association_to_the_left(self):
        for sign in TIGHTEST_FIRST:
            self.assertEqual(
                read_expression(f"a {sign} b {sign} c {sign} d"), (sign, (sign, (sign, "a", "b"), "c"), "d")
            )
            self.assertEqual(read_expression(f"a {sign} (b {sign} c)"), (sign, "a", (sign, "b", "c")))

    def test_kinds_do_not_matter(self):
        self.assertEqual(read_expression("keys(keys(a))"), ("keys", ("keys", "a")))

    def test_all_short_chains_as_python_reads_them(self):
        for signs in itertools.product(TIGHTEST_FIRST, repeat=4):
            text = "a" + "".join(f" {sign} {name}" for sign, name in zip(signs, "bcde"))
            self.assertEqual(read_expression(text), python_read(text))

    def test_any_expressions(self):
        chance = random.Random(7)
        for _ in range(500):
            wanted = any_expression(chance, 4)
            text = show_expression(wanted)
            with self.subTest(text):
                self.assertEqual(read_expression(text), wanted)
                self.assertEqual(read_expression(spread(text, chance)), wanted)
                full = closed(wanted)
                if len(full.replace(" ", "")) <= 200:
                    self.assertEqual(read_expression(spread(full, chance)), wanted)

    def test_what_is_none(self):
        for text in NO_EXPRESSIONS:
            self.refuse(read_expression, text)

    def test_what_is_no_string(self):
        for thing in ANY + [["a"], ("a",), ("|", "a", "b"), {"a": "a"}]:
            names = ("a", "z", "ab", "abc", "abcd", "key", "loo", "sel")
            if not (isinstance(thing, str) and thing.strip(" ") in names):
                self.refuse(read_expression, thing)

    def test_every_other_character(self):
        for code in [*range(0, 128), 133, 160, 8232, 8195]:
            character = chr(code)
            if character not in "abcdefghijklmnopqrstuvwxyz @-&^|":
                self.refuse(read_expression, f"a{character}b")
                self.refuse(read_expression, f"a | {character} b")
                self.refuse(read_expression, f"{character}a")

    def test_two_hundred_characters(self):
        chain = "a" + "|b" * 99
        self.assertEqual(len(chain), 199)
        self.assertEqual(read_expression(chain), python_read(chain))
        for text in (chain + "b", "ab" + "|b" * 99):
            self.assertEqual(read_expression(text), python_read(text))
            self.assertEqual(read_expression(" " + text.replace("|", "    |   ") + " " * 500), python_read(text))
        for text in (chain + "bc", "abc" + "|b" * 99, "a" + "|b" * 100):
            self.assertEqual(len(text), 201)
            self.refuse(read_expression, text)
            self.refuse(read_expression, text.replace("|", " | "))
        self.refuse(read_expression, "a" + "|b" * 900)

    def test_spaces_do_not_count(self):
        self.assertEqual(read_expression(" " * 1000 + "a" + " " * 990), "a")

    def test_open_parentheses(self):
        for many in range(9):
            self.assertEqual(read_expression("(" * many + "a" + ")" * many), "a")
        for many in (9, 10, 50, 90):
            self.refuse(read_expression, "(" * many + "a" + ")" * many)
        self.refuse(read_expression, "(" * 200)
        self.refuse(read_expression, "(" * 2000)

    def test_open_parentheses_of_keys_and_look(self):
        eight = "keys(" * 4 + "((((a" + ")" * 8
        self.assertEqual(read_expression(eight), ("keys", ("keys", ("keys", ("keys", "a")))))
        self.refuse(read_expression, f"({eight})")
        self.refuse(read_expression, f"keys({eight})")
        self.refuse(read_expression, f"look(a, {eight})")
        self.refuse(read_expression, f"look({eight}, a)")
        nested = "a"
        for _ in range(8):
            nested = f"look(b, {nested})"
        self.assertEqual(read_expression(nested), python_read(nested))
        self.refuse(read_expression, f"look(b, {nested})")

    def test_parentheses_that_are_closed_do_not_count(self):
        many = " | ".join(["(((((((a)))))))"] * 10)
        self.assertEqual(read_expression(f"({many})"), python_read(many))
        self.refuse(read_expression, f"(({many}))")
        eight = "(" * 8 + "a" + ")" * 8
        for begin in ("(a) | ", "keys(a) | look(a, (b)) | (c) | "):
            self.assertEqual(read_expression(begin + eight), read_expression(begin + "a"))
            self.refuse(read_expression, f"{begin}({eight})")

    def test_by_name(self):
        self.assertEqual(read_expression(text="a|b"), ("|", "a", "b"))


class TestReadRow(ReadingTest):
    def test_rows(self):
        for text in ("c = a | b", "c=a|b", "  c   =   a   |   b  ", "c = (a | b)", "c= a | b", "c =a | b"):
            self.assertEqual(read_row(text), ("c", ("|", "a", "b")))
        self.assertEqual(read_row("c = c"), ("c", "c"))
        self.assertEqual(read_row("abcd = keys(d)"), ("abcd", ("keys", "d")))
        self.assertEqual(read_row("key = look(s, d)"), ("key", ("look", "s", "d")))

    def test_the_row_of_the_interface(self):
        self.assertEqual(read_row("c |= a"), ("c", ("|", "c", "a")))

    def test_each_operator(self):
        for sign in TIGHTEST_FIRST:
            for text in (f"c {sign}= a", f"c{sign}=a", f"  c   {sign}=   a  ", f"c{sign}= (a)"):
                self.assertEqual(read_row(text), ("c", (sign, "c", "a")))

    def test_the_expression_is_one_operand(self):
        for sign, other in itertools.product(TIGHTEST_FIRST, TIGHTEST_FIRST):
            self.assertEqual(read_row(f"c {sign}= a {other} b"), ("c", (sign, "c", (other, "a", "b"))))

    def test_what_is_none(self):
        for text in NO_ROWS + [text for text in NO_EXPRESSIONS if "=" not in text]:
            self.refuse(read_row, text)
        for text in NO_EXPRESSIONS:
            self.refuse(read_row, f"c = {text}")
            if text[:1] != "=":
                self.refuse(read_row, f"c |= {text}")

    def test_an_expression_is_no_row_and_a_row_is_no_expression(self):
        for text in ("a", "a | b", "keys(a)"):
            self.refuse(read_row, text)
            self.refuse(read_expression, f"c = {text}")
            self.refuse(read_expression, f"c |= {text}")

    def test_what_is_no_string(self):
        for thing in ANY + [("c", "a"), ["c = a"], ("c = a",), {"c": "a"}]:
            self.refuse(read_row, thing)

    def test_two_hundred_characters(self):
        for begin in ("c=", "c|=", "cc =", "cc |= ", "abcd &="):
            bare = begin.replace(" ", "")
            rest = "ab" if (200 - len(bare)) % 2 == 0 else "a"
            rest += "|b" * ((200 - len(bare) - len(rest)) // 2)
            self.assertEqual(len(bare + rest), 200)
            name, expression = read_row(begin + rest)
            tree = python_read(rest)
            sign = bare[-2]
            self.assertEqual((name, expression), (name, (sign, name, tree) if sign in TIGHTEST_FIRST else tree))
            self.assertEqual(read_row(begin + rest.replace("|", "  |  ")), (name, expression))
            self.refuse(read_row, begin + rest + "c")

    def test_open_parentheses(self):
        for begin in ("c =", "c |="):
            self.assertEqual(read_row(begin + "(" * 8 + "a" + ")" * 8), read_row(begin + "a"))
            self.refuse(read_row, begin + "(" * 9 + "a" + ")" * 9)
            self.refuse(read_row, begin + "keys" + "(" * 9 + "a" + ")" * 9)

    def test_by_name(self):
        self.assertEqual(read_row(text="c=a"), ("c", "a"))


class TestShowExpression(unittest.TestCase):
    def test_spaces(self):
        for text, shown in (
            ("a", "a"), ("((a))", "a"), ("a|b", "a | b"), ("(a|b)", "a | b"), ("keys( d )", "keys(d)"),
            ("look(s,d)", "look(s, d)"), ("look ( ( s|a ) , ( d ) )", "look(s | a, d)"), ("keys((a|b))", "keys(a | b)"),
            ("(keys(a))|(look(a,b))", "keys(a) | look(a, b)"), ("a@b-c&d^e|f", "a @ b - c & d ^ e | f"),
        ):
            self.assertEqual(show_expression(read_expression(text)), shown)

    def test_parentheses(self):
        for text in (
            "a - (b - c)", "a - b - c", "(a | b) & c", "a & (b | c)", "a | b & c", "a & b | c", "(a - b) @ c",
            "a - b @ c",
            "a @ b - c", "a @ (b - c)", "a | (b | c)", "(a ^ b) - (c ^ d)", "((a | b) ^ c) & d", "keys(a | b) & c",
        ):
            self.assertEqual(show_expression(read_expression(text)), text)

    def test_each_pair_of_operators(self):
        for outer, inner in itertools.product(TIGHTEST_FIRST, TIGHTEST_FIRST):
            looser = TIGHTEST_FIRST.index(inner) > TIGHTEST_FIRST.index(outer)
            left = f"(a {inner} b) {outer} c" if looser else f"a {inner} b {outer} c"
            right = f"a {outer} (b {inner} c)" if looser or inner == outer else f"a {outer} b {inner} c"
            self.assertEqual(show_expression((outer, (inner, "a", "b"), "c")), left)
            self.assertEqual(show_expression((outer, "a", (inner, "b", "c"))), right)

    def test_as_python_writes_them(self):
        chance = random.Random(8)
        for _ in range(500):
            tree = any_expression(chance, 4)
            self.assertEqual(show_expression(tree), ast.unparse(ast.parse(closed(tree), mode="eval")))

    def test_fewest_parentheses(self):
        chance = random.Random(9)
        for _ in range(300):
            tree = any_expression(chance, 3)
            text = show_expression(tree)
            self.assertEqual(read_expression(text), tree)
            for places in pairs_of(text):
                self.assertNotEqual(read_expression(without(text, places)), tree, text)

    def test_written_read_and_written_again(self):
        chance = random.Random(10)
        for _ in range(300):
            text = show_expression(any_expression(chance, 4))
            self.assertEqual(show_expression(read_expression(text)), text)

    def test_texts_that_are_too_long_to_be_read(self):
        tree = "a"
        for _ in range(300):
            tree = ("|", tree, "b")
        self.assertEqual(show_expression(tree), "a" + " | b" * 300)
        self.assertRaises(BadRow, read_expression, show_expression(tree))

    def test_texts_that_are_too_deep_to_be_read(self):
        for many in (9, 20, 400, 3000):
            right, keyed, looked = "a", "a", "a"
            for _ in range(many):
                right, keyed, looked = ("-", "b", right), ("keys", keyed), ("look", looked, "b")
            self.assertEqual(show_expression(right), "b - (" * (many - 1) + "b - a" + ")" * (many - 1))
            self.assertEqual(show_expression(keyed), "keys(" * many + "a" + ")" * many)
            self.assertEqual(show_expression(looked), "look(" * many + "a" + ", b)" * many)

    def test_by_name(self):
        self.assertEqual(show_expression(expression=("keys", "d")), "keys(d)")


if __name__ == "__main__":
    unittest.main()
