"""[1] The interface: names, modules and arguments, and where each thing is defined."""

import importlib
import inspect
import unittest

INTERFACE = {
    "slitsheets.measures": ["is_measure(value)", "whole_root(measure)", "factor(measure)"],
    "slitsheets.rootnumbers": [
        "is_root(measure, value)", "root_number(measure, x, y, below)", "root_plus(measure, one, other)",
        "root_less(measure, one, other)", "root_times(measure, one, other)", "root_over(measure, one, other)",
        "root_side(measure, root)", "root_floor(measure, root)"],
    "slitsheets.cuttings": [
        "is_cutting(value)", "measure_of(cutting)", "how_many_cuttings(measure)", "cuttings(measure)",
        "how_many_with_last(measure, e)", "cutting_number(cutting)", "cutting_numbered(measure, number)",
        "next_cutting(cutting)"],
}

ERRORS = [
    "SheetError", "InvalidMeasure", "InvalidNumber", "InvalidRoot", "InvalidCutting", "InvalidDeed", "InvalidWord",
    "InvalidList", "InvalidPoint", "InvalidTable", "InvalidFloor", "Unlike", "TooMany"]


class Interface(unittest.TestCase):

    def test_functions_stand_in_their_modules_with_their_arguments(self):
        for module_name, listed in INTERFACE.items():
            module = importlib.import_module(module_name)
            for entry in listed:
                name, _, arguments = entry.partition("(")
                function = getattr(module, name)
                self.assertTrue(inspect.isfunction(function), entry)
                self.assertEqual(function.__module__, module_name, entry)
                self.assertEqual(str(inspect.signature(function)), "(" + arguments)

    def test_errors_stand_in_their_module(self):
        module = importlib.import_module("slitsheets.errors")
        for name in ERRORS:
            self.assertTrue(inspect.isclass(getattr(module, name)), name)
            self.assertEqual(getattr(module, name).__module__, "slitsheets.errors", name)
