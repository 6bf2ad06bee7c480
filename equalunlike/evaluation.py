"""Expressions and rows done step by step, whatever the values are."""

# How many operands each operation has; whatever else stands in an expression is a name.
OPERANDS = {"|": 2, "^": 2, "&": 2, "-": 2, "@": 2, "keys": 1, "look": 2}


def words_of(expression):
    """The names and operations of an expression in the order of evaluation.

    An operation stands behind its operands, the left one before the right one.
    """
    # An expression may be nested deeper than Python can call, so nothing calls itself here.
    waiting = [expression]
    backwards = []
    while waiting:
        part = waiting.pop()
        if isinstance(part, str):
            backwards.append(part)
        else:
            word, *operands = part
            backwards.append(word)
            waiting.extend(operands)
    return backwards[::-1]


def evaluated(words, values, step):
    """The value of an expression, given by its words.

    values has the value of each name, and step(word, operands) is the value of an operation.
    """
    stack = []
    for word in words:
        if word in OPERANDS:
            first = len(stack) - OPERANDS[word]
            operands = stack[first:]
            del stack[first:]
            stack.append(step(word, operands))
        else:
            stack.append(values[word])
    return stack.pop()


def after_rows(rows, values, step):
    """The values of all names behind rows, which are pairs (name, words), done one after the other."""
    held = dict(values)
    for name, words in rows:
        held[name] = evaluated(words, held, step)
    return held
