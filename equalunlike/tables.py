"""Tables of forms, and a search for expressions that give them.

In the search a table is one number. It has a bit for each pattern and each input, those for the first input first; the
bit is 1 if the element of this input stands at this pattern.
"""

from equalunlike.errors import BadTable


def check_table(names, table):
    """Raises BadTable if any value is not a table for the inputs with these names."""
    if not isinstance(table, tuple) or len(table) != _patterns_of(names):
        raise BadTable()
    for pattern, item in enumerate(table, start=1):
        if item is not None and item not in _names_in(names, pattern):
            raise BadTable()


def number_of(names, table):
    """The number of a table."""
    bits = [_bit(names, name, pattern) for pattern, name in enumerate(table, start=1) if name is not None]
    return sum(bits)


class Search:
    """Finds the tables of expressions with no operator, then with one, with two and so on.

    These are expressions without choices. A choice makes no expression shorter: at counts at which all patterns occur
    it takes one of its operands, and with `@` in its place, between the operands in this or in the other order, the
    expression gives the same table.

    found has a shortest expression for the number of each table that was found; levels has the lists of these numbers,
    by the number of operators.
    """

    def __init__(self, names):
        self.many = len(names)
        self.width = _patterns_of(names)
        self.found = {}
        # For each number the bits for all inputs at those patterns at which an element stands.
        self.reach = {}
        inputs = []
        for name in names:
            patterns = [pattern for pattern in range(1, self.width + 1) if name in _names_in(names, pattern)]
            number = sum([_bit(names, name, pattern) for pattern in patterns])
            self.keep(number, name)
            inputs.append(number)
        self.levels = [inputs]

    def grow(self):
        """Finds the tables of expressions with one operator more."""
        many = len(self.levels)
        new = []
        for at in range(many):
            for left in self.levels[at]:
                for right in self.levels[many - 1 - at]:
                    new.extend(self.new_from(left, right))
        self.levels.append(new)

    def new_from(self, left, right):
        """The list of the numbers that come from two tables by an operator and were not found before."""
        rest = left & ~self.reach[right]
        more = right & ~self.reach[left]
        new = []
        for sign, number in (("@", left & self.reach[right]), ("-", rest), ("^", rest | more), ("|", left | more)):
            if number not in self.found:
                self.keep(number, (sign, self.found[left], self.found[right]))
                new.append(number)
        return new

    def keep(self, number, expression):
        """Keeps an expression as a shortest one for the table with this number."""
        ones = (1 << self.width) - 1
        starts = [place * self.width for place in range(self.many)]
        standing = 0
        for start in starts:
            standing |= number >> start & ones
        self.found[number] = expression
        self.reach[number] = sum([standing << start for start in starts])


def _patterns_of(names):
    return (1 << len(names)) - 1


def _names_in(names, pattern):
    """The names of the inputs that are in a pattern."""
    return [name for place, name in enumerate(names) if pattern >> place & 1]


def _bit(names, name, pattern):
    return 1 << names.index(name) * _patterns_of(names) + pattern - 1
