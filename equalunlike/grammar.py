"""Expressions and rows: their texts are read and written."""

from equalunlike.basics import is_name
from equalunlike.errors import BadRow
from equalunlike.evaluation import evaluated, words_of

# From the one that binds loosest: the place of an operator here is its level.
OPERATORS = ("|", "^", "&", "-", "@")
SIGNS = ("|", "^", "&", "-", "@", "(", ")", ",")
MOST_CHARACTERS = 200
MOST_OPEN = 8
# Stands behind the last word of a text, which is never empty itself.
END = ""


def read_expression(text):
    """The expression of which this is the text."""
    _check_size(text)
    return Reader(_split(text)).whole()


def read_row(text):
    """The tuple (name, expression) of the row of which this is the text."""
    _check_size(text)
    head, _, tail = text.partition("=")
    operator = head[-1:]
    assigns_anew = operator not in OPERATORS
    if not assigns_anew:
        head = head[:-1]
    name = head.strip(" ")
    if not is_name(name):
        raise BadRow(0)
    expression = Reader(_split(tail)).whole()
    if assigns_anew:
        return (name, expression)
    return (name, (operator, name, expression))


def show_expression(expression):
    """The text of an expression, with as few parentheses as possible."""
    words = words_of(expression)
    names = {word: (word, len(OPERATORS)) for word in words if is_name(word)}
    text, _ = evaluated(words, names, _shown)
    return text


def _check_size(text):
    if not isinstance(text, str) or len(text.replace(" ", "")) > MOST_CHARACTERS:
        raise BadRow(0)


def _split(text):
    """The words of a text: signs, and what stands between signs and spaces."""
    spaced = text
    for sign in SIGNS:
        spaced = spaced.replace(sign, f" {sign} ")
    return [word for word in spaced.split(" ") if word]


def _shown(word, parts):
    """The text of an operation and its level, from those of its operands."""
    if word not in OPERATORS:
        inside = ", ".join([text for text, _ in parts])
        return (f"{word}({inside})", len(OPERATORS))
    level = OPERATORS.index(word)
    left, right = parts
    # Operators of one kind associate to the left: only the left operand may be of the same level.
    return (f"{_closed(left, level)} {word} {_closed(right, level + 1)}", level)


def _closed(part, level):
    """The text of an operand, in parentheses if it binds more loosely than the level asks for."""
    text, own = part
    return text if own >= level else f"({text})"


class Reader:
    """Reads the words of an expression, one after the other."""

    def __init__(self, words):
        self.words = [*words, END]
        self.at = 0
        self.depth = 0

    def whole(self):
        """The expression that all words make."""
        expression = self.level(0)
        self.need(END)
        return expression

    def level(self, at_least):
        """An expression whose operators are of this level or bind more tightly."""
        if at_least == len(OPERATORS):
            return self.single()
        operator = OPERATORS[at_least]
        left = self.level(at_least + 1)
        while self.took(operator):
            right = self.level(at_least + 1)
            left = (operator, left, right)
        return left

    def single(self):
        """A name, keys(E), look(E, E) or (E)."""
        word = self.words[self.at]
        if is_name(word):
            self.at += 1
            return word
        if self.took("keys"):
            return ("keys", self.parts(1)[0])
        if self.took("look"):
            first, second = self.parts(2)
            return ("look", first, second)
        return self.parts(1)[0]

    def parts(self, many):
        """So many expressions in parentheses, with commas between them."""
        self.need("(")
        self.depth += 1
        if self.depth > MOST_OPEN:
            raise BadRow(0)
        found = [self.level(0)]
        while len(found) < many:
            self.need(",")
            found.append(self.level(0))
        self.need(")")
        self.depth -= 1
        return found

    def took(self, word):
        """Whether this is the next word; if it is, it is read."""
        if self.words[self.at] != word:
            return False
        self.at += 1
        return True

    def need(self, word):
        """Reads this word, or there is no expression."""
        if not self.took(word):
            raise BadRow(0)
