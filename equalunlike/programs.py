"""Programs: rows of assignments with form sets and form dicts."""

from equalunlike.basics import is_name
from equalunlike.errors import BadContents, BadInputs, BadOutput, BadRow, TooMany
from equalunlike.evaluation import after_rows, words_of
from equalunlike.grammar import read_row, show_expression
from equalunlike.operations import contents_after, kind_of, kind_of_row

MOST_INPUTS = 3
MOST_ROWS = 12
MOST_CHOICES = 4


class Program:
    """Rows with their inputs and outputs. A program never changes.

    rows is the tuple of the rows, each a tuple (name, words) with the words in the order of evaluation.
    """

    def __init__(self, *rows, sets=(), dicts=(), outputs):
        kinds = kinds_of_inputs(sets, dicts)
        self._inputs = tuple(kinds)
        self._input_kinds = tuple(kinds.values())
        read = _read_rows(rows)
        self._texts = tuple([f"{name} = {show_expression(expression)}" for name, expression in read])
        self.rows = tuple([(name, tuple(words_of(expression))) for name, expression in read])
        check_choices([words for _, words in self.rows])
        for place, (name, words) in enumerate(self.rows):
            kinds[name] = kind_of_row(place, words, kinds)
        _check_outputs(outputs, kinds)
        self._outputs = tuple(outputs)
        self._output_kinds = tuple([kinds[name] for name in outputs])

    @property
    def inputs(self):
        """The names of the inputs, sets first."""
        return self._inputs

    @property
    def input_kinds(self):
        """The kind of each input, "set" or "dict"."""
        return self._input_kinds

    @property
    def outputs(self):
        """The names of the outputs."""
        return self._outputs

    @property
    def output_kinds(self):
        """The kind of each output, "set" or "dict"."""
        return self._output_kinds

    @property
    def patterns(self):
        """How many patterns a key can have."""
        return (1 << len(self._inputs)) - 1

    def run(self, **contents):
        """A dict from each output to its value."""
        check_contents(self, contents)
        values = after_rows(self.rows, contents, contents_after)
        return {name: values[name] for name in self._outputs}

    def __len__(self):
        return len(self.rows)

    def __str__(self):
        return "\n".join(self._texts)

    def __eq__(self, other):
        return (
            isinstance(other, Program)
            and self._inputs == other._inputs
            and self._input_kinds == other._input_kinds
            and self._texts == other._texts
            and self._outputs == other._outputs
        )


def check_contents(program, contents):
    """Raises BadContents if a dict does not have contents for each input, and for no other name."""
    for name, kind in zip(program.inputs, program.input_kinds):
        if kind_of(contents.get(name)) != kind:
            raise BadContents(name)
    for name in contents:
        if name not in program.inputs:
            raise BadContents(name)


def kinds_of_inputs(sets, dicts):
    """A dict from each input, in order, to its kind."""
    if not isinstance(sets, (list, tuple)) or not isinstance(dicts, (list, tuple)):
        raise BadInputs()
    names = [*sets, *dicts]
    if not 1 <= len(names) <= MOST_INPUTS or not all([is_name(name) for name in names]):
        raise BadInputs()
    if len(set(names)) < len(names):
        raise BadInputs()
    kinds = {name: "set" for name in sets}
    for name in dicts:
        kinds[name] = "dict"
    return kinds


def _read_rows(rows):
    """The list of the tuples (name, expression) of the rows."""
    if len(rows) > MOST_ROWS:
        raise TooMany(MOST_ROWS)
    read = []
    for place, row in enumerate(rows):
        try:
            read.append(read_row(row))
        except BadRow:
            raise BadRow(place) from None
    return read


def check_choices(expressions):
    """Raises TooMany if expressions, given by their words, have too many choices together."""
    if sum([words.count("&") for words in expressions]) > MOST_CHOICES:
        raise TooMany(MOST_CHOICES)


def _check_outputs(outputs, kinds):
    """Raises BadOutput if these are not different names with values."""
    if not isinstance(outputs, (list, tuple)) or not outputs:
        raise BadOutput(outputs)
    found = []
    for name in outputs:
        if not is_name(name) or name not in kinds or name in found:
            raise BadOutput(name)
        found.append(name)
