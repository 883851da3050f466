"""[1] The interface: names, modules and arguments, and where each thing is defined."""

import importlib
import inspect
import unittest

INTERFACE = {
    "slitsheets.measures": ["is_measure(value)", "whole_root(measure)", "factor(measure)"],
    "slitsheets.rootnumbers": [
        "is_root(measure, value)", "root_number(measure, x, y, below)", "root_plus(measure, one, other)",
        "root_less(measure, one, other)", "root_times(measure, one, other)", "root_over(measure, one, other)",
        "root_side(measure, root)", "root_floor(measure, root)"],
    "slitsheets.cuttings": [
        "is_cutting(value)", "measure_of(cutting)", "how_many_cuttings(measure)", "cuttings(measure)",
        "how_many_with_last(measure, e)", "cutting_number(cutting)", "cutting_numbered(measure, number)",
        "next_cutting(cutting)"],
    "slitsheets.deeds": [
        "is_deed(cutting, value)", "how_many_deeds(cutting)", "deeds(cutting)", "done(cutting, deed)",
        "back(cutting, deed)", "is_word(cutting, value)", "led(cutting, word)", "passed(cutting, word)",
        "led_back(cutting, word)", "deeds_to(cutting, other)", "mirror(cutting)", "mirror_deed(cutting, deed)"],
    "slitsheets.lots": [
        "sign(cutting)", "joined(one, other)", "lots(measure)", "lot_sizes(measure)", "lot_of(cutting)",
        "lot_number(cutting)", "lot_numbered(cutting, number)", "next_in_lot(cutting)", "is_lot(value)",
        "is_closed(value)"],
    "slitsheets.ways": [
        "shortest_word(one, other)", "is_shortest(one, other, value)", "how_far(one, other)", "farthest(cutting)",
        "how_many_far(cutting)", "how_many_words(one, other, length)", "word_numbered(one, other, length, number)",
        "word_number(one, word)"],
    "slitsheets.heart": [
        "is_heart(value)", "how_many_heart(measure)", "heart_numbered(measure, number)", "heart_number(cutting)",
        "heart_steps(cutting)", "heart_distance(cutting)", "word_to_heart(cutting)", "heart_lots(measure)"],
    "slitsheets.roads": ["road(one, other)", "is_road(one, other, value)"],
    "slitsheets.sheets": [
        "square_side(cutting)", "corners(cutting)", "gluings(cutting)", "area(cutting)", "point_of(cutting, place)",
        "is_point(cutting, value)", "piece_of(cutting, point)"],
    "slitsheets.flights": ["flown(cutting, point, vector)", "corner_at(cutting, point, vector)"],
    "slitsheets.paths": ["crossing(one, other)", "root_path(cutting, path)"],
    "slitsheets.tables": [
        "led_path(table, path)", "table_product(one, other)", "keeps_crossings(table)", "table_back(table)",
        "deed_table(cutting, deed)", "word_table(cutting, word)", "shear_table(cutting, times)",
        "back_shear(cutting, deed)"],
    "slitsheets.roundwords": [
        "round_numbers(cutting, word)", "round_kind(cutting, word)", "round_power(cutting, word, times)",
        "round_order(cutting, word)"],
    "slitsheets.bands": [
        "path_vector(cutting, path)", "around(cutting, deed)", "band_areas(cutting, deed)",
        "band_of(cutting, deed, point)", "change(cutting, deed)", "changed(cutting, deed, vector)"],
    "slitsheets.floors": [
        "is_floor(value)", "named(floor)", "sheared(floor)", "turned(floor)", "floor_led(floor, word)",
        "how_many_floors(n)", "floors_of(n)", "bands(floor)", "cutting_of(floor)", "floor_with(cutting)",
        "how_many_with(cutting)", "half_turn(floor)", "middles(floor)", "floors_joined(one, other)",
        "floor_word(one, other)"],
}

ERRORS = [
    "SheetError", "InvalidMeasure", "InvalidNumber", "InvalidRoot", "InvalidCutting", "InvalidDeed", "InvalidWord",
    "InvalidList", "InvalidPoint", "InvalidTable", "InvalidFloor", "Unlike", "TooMany"]


class Interface(unittest.TestCase):

    def test_functions_stand_in_their_modules_with_their_arguments(self):
        for module_name, listed in INTERFACE.items():
            module = importlib.import_module(module_name)
            for entry in listed:
                name, _, arguments = entry.partition("(")
                function = getattr(module, name)
                self.assertTrue(inspect.isfunction(function), entry)
                self.assertEqual(function.__module__, module_name, entry)
                self.assertEqual(str(inspect.signature(function)), "(" + arguments)

    def test_errors_stand_in_their_module(self):
        module = importlib.import_module("slitsheets.errors")
        for name in ERRORS:
            self.assertTrue(inspect.isclass(getattr(module, name)), name)
            self.assertEqual(getattr(module, name).__module__, "slitsheets.errors", name)
