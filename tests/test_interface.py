"""The interface: each name in its file, with its parameters in their order."""

import inspect
import unittest

from interface import INTERFACE, told


class Interface(unittest.TestCase):

    def test_names_stand_in_their_files_with_their_parameters(self):
        for module, functions in INTERFACE.items():
            for name, parameters in functions.items():
                function = getattr(module, name)
                self.assertTrue(inspect.isfunction(function), name)
                self.assertEqual(function.__module__, module.__name__, name)
                signed = inspect.signature(function).parameters.values()
                self.assertEqual([one.name for one in signed], parameters, name)
                for one in signed:
                    self.assertEqual(one.kind, one.POSITIONAL_OR_KEYWORD, name)
                    self.assertIs(one.default, one.empty, name)

    def test_parameters_are_passed_by_position_or_by_name(self):
        for module, functions in INTERFACE.items():
            for name, parameters in functions.items():
                passed = told(module, name)
                function = getattr(module, name)
                by_position = function(*passed.values())
                self.assertEqual(function(**passed), by_position, name)
                turned = dict(reversed(list(passed.items())))
                self.assertEqual(function(**turned), by_position, name)
                first = parameters[0]
                rest = {one: passed[one] for one in parameters[1:]}
                self.assertEqual(function(passed[first], **rest), by_position, name)


if __name__ == "__main__":
    unittest.main()
