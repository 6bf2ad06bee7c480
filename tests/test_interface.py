"""The names of the interface: where they are defined, and with which arguments."""

import importlib
import inspect
import unittest

FUNCTIONS = {
    "equalunlike.basics": {"is_name": "(thing)", "is_element": "(thing)", "is_entry": "(thing)"},
    "equalunlike.grammar": {
        "read_expression": "(text)",
        "read_row": "(text)",
        "show_expression": "(expression)",
    },
    "equalunlike.counting": {
        "pattern_of": "(program, sought, **contents)",
        "counts_of": "(program, **contents)",
        "sample": "(program, counts)",
    },
    "equalunlike.ways": {
        "choices": "(program)",
        "has_pattern": "(program, output, pattern)",
        "ways": "(program, output, pattern)",
        "taken": "(program, output, pattern, counts)",
        "conditions": "(program, path)",
    },
    "equalunlike.solving": {"solve": "(patterns, conditions, pattern)"},
    "equalunlike.checker": {
        "is_answer": "(patterns, conditions, pattern, answer)",
        "is_verdict": "(one, other, verdict)",
    },
    "equalunlike.comparing": {"compare": "(one, other)"},
    "equalunlike.standing": {"standing": "(program, output, pattern)", "is_sure": "(program, output)"},
    "equalunlike.wanted": {"gives": "(names, expression, table)", "shortest": "(names, table, *, most=5)"},
    "equalunlike.traces": {
        "explains": "(house, name, key, trace)",
        "explains_value": "(house, name, key, trace)",
    },
    "equalunlike.histories": {"history_text": "(deeds)", "read_history": "(text)"},
}

CLASSES = {
    "equalunlike.sets": {
        "FormSet": {
            "__init__": "(self, given=())",
            "members": "(self)",
            "each": "(self)",
            "__contains__": None,
            "form_of": "(self, key)",
            "__or__": None,
            "__and__": None,
            "__sub__": None,
            "__xor__": None,
            "joined": "(self, *others)",
            "kept": "(self, other)",
            "with_element": "(self, element)",
            "without_key": "(self, key)",
            "equals": "(self, other)",
            "__eq__": None,
            "__len__": None,
            "__str__": None,
            "__repr__": None,
        },
    },
    "equalunlike.dicts": {
        "FormDict": {
            "__init__": "(self, given=())",
            "entries": "(self)",
            "each": "(self)",
            "__contains__": None,
            "form_of": "(self, key)",
            "__getitem__": None,
            "__or__": None,
            "__sub__": None,
            "merged": "(self, *others)",
            "kept": "(self, other)",
            "key_set": "(self)",
            "looked": "(forms, source)",
            "with_entry": "(self, key, form, value, *, replace=True)",
            "without_key": "(self, key)",
            "equals": "(self, other)",
            "__eq__": None,
            "__len__": None,
            "__str__": None,
            "__repr__": None,
        },
    },
    "equalunlike.programs": {
        "Program": {
            "__init__": "(self, *rows, sets=(), dicts=(), outputs)",
            "run": "(self, **contents)",
            "__eq__": None,
            "__len__": None,
            "__str__": None,
        },
    },
    "equalunlike.house": {
        "House": {
            "__init__": "(self)",
            "do": "(self, *deed)",
            "content": "(self, name)",
            "trace": "(self, name, key)",
            "value_trace": "(self, name, key)",
            "undo": "(self)",
            "history": "(self)",
            "twin": "(self)",
            "trial": "(self)",
            "tried": "(self, function)",
            "played": "(deeds)",
            "program": "(self, first, *, outputs)",
            "__len__": None,
            "__eq__": None,
            "__str__": None,
        },
    },
    "equalunlike.desk": {"Desk": {"__init__": "(self)", "say": "(self, row)"}},
}

PROPERTIES = {
    "equalunlike.programs": {"Program": ["inputs", "input_kinds", "outputs", "output_kinds", "patterns"]},
    "equalunlike.house": {"House": ["names"]},
}
STATIC = {"equalunlike.dicts": {"FormDict": ["looked"]}}
CLASS_METHODS = {"equalunlike.house": {"House": ["played"]}}


class TestInterface(unittest.TestCase):
    def test_functions(self):
        for place, functions in FUNCTIONS.items():
            module = importlib.import_module(place)
            for name, signature in functions.items():
                with self.subTest(name):
                    function = getattr(module, name)
                    self.assertEqual(function.__module__, place)
                    self.assertEqual(str(inspect.signature(function)), signature)

    def test_classes(self):
        for place, classes in CLASSES.items():
            module = importlib.import_module(place)
            for name, methods in classes.items():
                made = getattr(module, name)
                self.assertEqual(made.__module__, place)
                for method, signature in methods.items():
                    with self.subTest(name=name, method=method):
                        self.assertIn(method, vars(made))
                        if signature is not None:
                            self.assertEqual(str(inspect.signature(getattr(made, method))), signature)

    def test_properties_static_and_class_methods(self):
        for listed, kind in ((PROPERTIES, property), (STATIC, staticmethod), (CLASS_METHODS, classmethod)):
            for place, classes in listed.items():
                for name, words in classes.items():
                    made = getattr(importlib.import_module(place), name)
                    for word in words:
                        self.assertIs(type(vars(made)[word]), kind)

    def test_errors_are_defined_in_their_file(self):
        module = importlib.import_module("equalunlike.errors")
        for thing in vars(module).values():
            if isinstance(thing, type):
                self.assertEqual(thing.__module__, "equalunlike.errors")


if __name__ == "__main__":
    unittest.main()
