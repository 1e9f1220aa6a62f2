"""Each function of the interface is defined in its file, with the arguments listed for it."""

import importlib
import inspect
import unittest

LISTED = {
    "nets": {"beside": ["one", "other"]},
    "rounds": {"rounds": ["net"], "parted_at": ["net", "one", "other"], "alike": ["net", "one", "other"]},
    "pairs": {"is_closed": ["net", "pairs"], "closed_pairs": ["net", "one", "other"]},
    "sayings": {"worked": ["net", "rows"], "deep": ["rows"]},
    "telling": {"saying_for": ["net", "one", "other"]},
    "least": {"least": ["net"]},
}


class TestInterface(unittest.TestCase):
    def test_each_function_is_defined_in_its_file(self):
        for file, functions in LISTED.items():
            module = importlib.import_module("samesteps." + file)
            for name, arguments in functions.items():
                function = getattr(module, name)
                self.assertEqual((function.__module__, function.__name__), ("samesteps." + file, name))
                self.assertEqual(list(inspect.signature(function).parameters), arguments)


if __name__ == "__main__":
    unittest.main()
