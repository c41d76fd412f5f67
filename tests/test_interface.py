"""The names and arguments of the interface, as the document tells them."""

import importlib
import inspect
import unittest

FUNCTIONS = {
    "reading": {"read": ["writing"], "shown": ["table"]},
    "opening": {
        "full": ["table", "sign"],
        "once": ["table", "text"],
        "opened": ["table", "text"],
        "depth": ["table", "text"],
        "sources": ["table", "text"],
    },
    "ordering": {
        "falls": ["table", "text"],
        "ordered": ["table", "text"],
        "exchanges": ["table", "text"],
        "apart": ["table", "text"],
    },
    "joining": {
        "together": ["table", "text"],
        "formed": ["table", "sign"],
        "form_of": ["table", "text", "form"],
    },
    "onestep": {"done": ["table", "text", "step"], "back": ["table", "text", "step"]},
    "likeness": {"alike": ["table", "one", "other"], "steps": ["table", "one", "other"]},
    "looks": {
        "hanger": ["table", "sign"],
        "stop": ["table", "sign"],
        "opens": ["table", "sign"],
        "quick": ["table", "text", "form"],
    },
    "borders": {"joined": ["table", "one", "other", "form"]},
    "rules": {"read_rules": ["writing"]},
    "pieces": {"bodies": ["table", "text", "form"], "pieces": ["table", "rules", "text", "form"]},
    "search": {"places": ["table", "text", "wanted"], "changed": ["table", "text", "wanted", "by"]},
    "tidy": {"lost": ["table"], "idle": ["table"], "least": ["table"]},
}
TABLE_METHODS = {
    "__init__": ["marks", "rows", "shuts"],
    "rank": ["sign"],
    "row": ["sign"],
    "is_shut": ["sign"],
    "pair": ["one", "other"],
    "marks": [],
    "rows": [],
    "shuts": [],
}
RULES_METHODS = {"kind": ["sign"], "reach": [], "keeps": ["left", "right"]}
KEPT_METHODS = {"text": [], "doors": [], "put": ["at", "text"], "take": ["low", "high"], "undo": []}


def arguments(thing):
    found = inspect.signature(thing).parameters.values()
    return [each.name for each in found], [each.default for each in found]


class Interface(unittest.TestCase):
    def check(self, thing, expected):
        names, defaults = arguments(thing)
        self.assertEqual(names, expected)
        self.assertEqual(defaults, [inspect.Parameter.empty] * len(expected))

    def test_functions(self):
        for module, functions in FUNCTIONS.items():
            loaded = importlib.import_module("signforms." + module)
            for name, expected in functions.items():
                with self.subTest(module, name=name):
                    self.assertTrue(inspect.isfunction(getattr(loaded, name)))
                    self.check(getattr(loaded, name), expected)

    def check_methods(self, kept, methods):
        for name, expected in methods.items():
            with self.subTest(kept.__name__, name=name):
                self.check(getattr(kept, name), ["self", *expected])

    def test_tables(self):
        self.check_methods(importlib.import_module("signforms.tables").Table, TABLE_METHODS)

    def test_rules(self):
        self.check_methods(importlib.import_module("signforms.rules").Rules, RULES_METHODS)

    def test_kept_texts(self):
        kept = importlib.import_module("signforms.kept").Kept
        self.check_methods(kept, KEPT_METHODS)
        names, defaults = arguments(kept)
        self.assertEqual(names, ["table", "text"])
        self.assertEqual(defaults, [inspect.Parameter.empty, None])


if __name__ == "__main__":
    unittest.main()
