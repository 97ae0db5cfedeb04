"""The interface: each name stands in its file, with its arguments by their names."""

import importlib
import inspect
import unittest

NEEDED = inspect.Parameter.empty

FUNCTIONS = {
    "triesgrow.patterns": {
        "is_word": {"thing": NEEDED}, "is_pattern": {"thing": NEEDED}, "leaves_of": {"pattern": NEEDED},
        "parts_of": {"pattern": NEEDED}, "deep_of": {"pattern": NEEDED},
    },
    "triesgrow.patterntexts": {"shown": {"pattern": NEEDED}, "read": {"text": NEEDED}},
    "triesgrow.machines": {
        "look_at": {"thing": NEEDED}, "turned": {"machine": NEEDED},
        "called": {"machine": NEEDED, "rooms": NEEDED}, "beginnings": {"machine": NEEDED},
    },
    "triesgrow.machinetexts": {"shown_machine": {"machine": NEEDED}, "read_machine": {"text": NEEDED}},
    "triesgrow.ways": {
        "ways": {"machine": NEEDED, "text": NEEDED, "first": None, "last": None},
        "counts": {"machine": NEEDED, "text": NEEDED}, "beginnings_by": {"machine": NEEDED, "text": NEEDED},
        "weighed": {"machine": NEEDED, "text": NEEDED, "worth": NEEDED},
        "reached": {"machine": NEEDED, "text": NEEDED},
    },
    "triesgrow.numbering": {
        "way_at": {"machine": NEEDED, "text": NEEDED, "number": NEEDED},
        "number_of": {"machine": NEEDED, "text": NEEDED, "way": NEEDED},
    },
    "triesgrow.positions": {"machine_of": {"pattern": NEEDED}, "reads_none": {"pattern": NEEDED}},
}


class Interface(unittest.TestCase):

    def test_functions(self):
        for place, functions in FUNCTIONS.items():
            module = importlib.import_module(place)
            for name, wanted in functions.items():
                with self.subTest(place=place, name=name):
                    function = getattr(module, name)
                    self.assertTrue(inspect.isfunction(function))
                    self.assertEqual(function.__module__, place)
                    told = inspect.signature(function).parameters
                    self.assertEqual({key: each.default for key, each in told.items()}, wanted)
                    self.assertEqual(list(told), list(wanted))
                    kinds = {each.kind for each in told.values()}
                    self.assertEqual(kinds, {inspect.Parameter.POSITIONAL_OR_KEYWORD})
