"""What each operation carries on from its operands.

A value here is a dict from each key that it has (or from each pattern) to a pair: what belongs to the element, and what
belongs to the value of the entry, which is None in a set. Whatever stands in the pairs is carried on as it is.
"""


def carried(word, operands):
    """The value of an operation. Of a choice it is told elsewhere which operand it takes."""
    left = operands[0]
    if word == "keys":
        return {key: (form, None) for key, (form, _) in left.items()}
    right = operands[1]
    if word == "look":
        return {key: (left[key][0], right[key][1]) for key in left if key in right}
    if word == "@":
        return {key: left[key] for key in left if key in right}
    rest = {key: left[key] for key in left if key not in right}
    if word == "-":
        return rest
    if word == "|":
        for key in left:
            if key in right:
                # The form stays, and a value is replaced.
                rest[key] = (left[key][0], right[key][1])
    for key in right:
        if key not in left:
            rest[key] = right[key]
    return rest


def carried_by_size(word, operands):
    """The value of any operation, where the values have all keys, so that their sizes decide a choice."""
    if word != "&":
        return carried(word, operands)
    left, right = operands
    if len(left) < len(right):
        return carried("@", [left, right])
    return carried("@", [right, left])
