"""The interface: each name stands in its file, with its arguments by their names."""

import importlib
import inspect
import unittest

NEEDED = inspect.Parameter.empty

FUNCTIONS = {
    "triesgrow.patterns": {
        "is_word": {"thing": NEEDED}, "is_pattern": {"thing": NEEDED}, "leaves_of": {"pattern": NEEDED},
        "parts_of": {"pattern": NEEDED}, "deep_of": {"pattern": NEEDED},
    },
    "triesgrow.patterntexts": {"shown": {"pattern": NEEDED}, "read": {"text": NEEDED}},
    "triesgrow.machines": {
        "look_at": {"thing": NEEDED}, "turned": {"machine": NEEDED},
        "called": {"machine": NEEDED, "rooms": NEEDED}, "beginnings": {"machine": NEEDED},
    },
    "triesgrow.machinetexts": {"shown_machine": {"machine": NEEDED}, "read_machine": {"text": NEEDED}},
    "triesgrow.ways": {
        "ways": {"machine": NEEDED, "text": NEEDED, "first": None, "last": None},
        "counts": {"machine": NEEDED, "text": NEEDED}, "beginnings_by": {"machine": NEEDED, "text": NEEDED},
        "weighed": {"machine": NEEDED, "text": NEEDED, "worth": NEEDED},
        "reached": {"machine": NEEDED, "text": NEEDED},
    },
    "triesgrow.numbering": {
        "way_at": {"machine": NEEDED, "text": NEEDED, "number": NEEDED},
        "number_of": {"machine": NEEDED, "text": NEEDED, "way": NEEDED},
    },
    "triesgrow.positions": {"machine_of": {"pattern": NEEDED}, "reads_none": {"pattern": NEEDED}},
    "triesgrow.fits": {"fits": {"pattern": NEEDED, "text": NEEDED}},
    "triesgrow.tries": {
        "tries_all": {"machine": NEEDED, "text": NEEDED},
        "tries_to": {"machine": NEEDED, "text": NEEDED, "number": NEEDED},
    },
    "triesgrow.roomtexts": {
        "rooms_text": {"machine": NEEDED, "rooms": NEEDED}, "rooms_in": {"machine": NEEDED, "text": NEEDED},
    },
    "triesgrow.sets": {"sets_of": {"machine": NEEDED, "most": 400}},
    "triesgrow.useful": {
        "useful": {"machine": NEEDED}, "trimmed": {"machine": NEEDED},
        "text_between": {"machine": NEEDED, "room": NEEDED, "other": NEEDED},
    },
    "triesgrow.rounds": {"double_rounds": {"machine": NEEDED}, "led_rounds": {"machine": NEEDED}},
    "triesgrow.growth": {"growth": {"machine": NEEDED}, "ranks": {"machine": NEEDED}},
    "triesgrow.pumps": {
        "pump_of": {"machine": NEEDED}, "lets_pump": {"machine": NEEDED, "thing": NEEDED},
        "laid": {"pump": NEEDED, "many": 1}, "least_ways": {"pump": NEEDED, "many": 1},
    },
    "triesgrow.tables": {
        "lets_table": {"machine": NEEDED, "thing": NEEDED},
        "bound": {"machine": NEEDED, "table": NEEDED, "n": NEEDED},
    },
    "triesgrow.above": {"table_of": {"machine": NEEDED, "most": 400}, "greatest": {"machine": NEEDED}},
    "triesgrow.otherwise": {"put_otherwise": {"pattern": NEEDED}},
    "triesgrow.sameness": {
        "parting": {"one": NEEDED, "other": NEEDED},
        "closed_of": {"one": NEEDED, "other": NEEDED, "most": 400},
        "lets_closed": {"one": NEEDED, "other": NEEDED, "thing": NEEDED},
    },
    "triesgrow.slow": {
        "stopper": {"machine": NEEDED}, "slow_pump": {"machine": NEEDED}, "slow_word": {"machine": NEEDED, "many": 1},
    },
}
# Each class with its methods, their arguments behind the object itself.
CLASSES = {
    ("triesgrow.trier", "Trier"): {
        "__init__": {"machine": NEEDED, "text": NEEDED, "most": 1000},
        "go": {}, "tries": {}, "found": {}, "__len__": {},
    },
    ("triesgrow.reader", "Reader"): {
        "__init__": {"machine": NEEDED},
        "feed": {"sign": NEEDED}, "take": {"text": NEEDED}, "back": {"many": 1},
        "text": {}, "reached": {}, "counts": {}, "ways": {}, "is_read": {}, "twin": {}, "__len__": {}, "__repr__": {},
    },
    ("triesgrow.known", "Known"): {
        "__init__": {"machine": NEEDED, "most": 50},
        "reads": {"text": NEEDED}, "reached": {"text": NEEDED}, "known": {}, "forget": {},
    },
    ("triesgrow.desk", "Desk"): {"__init__": {}, "say": {"row": NEEDED}},
}


def arguments_of(function):
    """The function's arguments by their names, each with what stands behind =, in order."""
    return [(name, each.default) for name, each in inspect.signature(function).parameters.items()]


class Interface(unittest.TestCase):

    def test_functions(self):
        for place, functions in FUNCTIONS.items():
            module = importlib.import_module(place)
            for name, wanted in functions.items():
                with self.subTest(place=place, name=name):
                    function = getattr(module, name)
                    self.assertTrue(inspect.isfunction(function))
                    self.assertEqual(function.__module__, place)
                    self.assertEqual(arguments_of(function), list(wanted.items()))
                    self.by_place_and_name(function)

    def test_classes(self):
        for (place, name), methods in CLASSES.items():
            told = getattr(importlib.import_module(place), name)
            self.assertTrue(inspect.isclass(told))
            self.assertEqual(told.__module__, place)
            for method, wanted in methods.items():
                with self.subTest(name=name, method=method):
                    function = vars(told)[method]
                    self.assertTrue(inspect.isfunction(function))
                    self.assertEqual(arguments_of(function)[1:], list(wanted.items()))
                    self.by_place_and_name(function)

    def test_the_reader_has_its_own_alikeness(self):
        reader = importlib.import_module("triesgrow.reader").Reader
        self.assertEqual(vars(reader)["__eq__"].__module__, "triesgrow.reader")

    def by_place_and_name(self, function):
        kinds = {each.kind for each in inspect.signature(function).parameters.values()}
        self.assertEqual(kinds, {inspect.Parameter.POSITIONAL_OR_KEYWORD})
