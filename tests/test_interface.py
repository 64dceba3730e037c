"""Every function has the parameters that the document writes: their names, their order, what may be omitted."""

import importlib
import inspect
import unittest

WRITTEN = {
    "shops": "is_shop(thing) is_setting(shop, thing) fits(shop, machine, size) rack(shop, setting) "
             "holder(setting, size)",
    "exchanges": "exchanges(shop, setting) exchanged(shop, setting, exchange) exchanged_all(shop, setting, row) "
                 "back(shop, setting, row)",
    "settings": "verdict(shop) shows_overfull(shop, thing) can_hold(shop, machine) can_lie(shop) certain(shop)",
    "service": "most_served(shop) service(shop) shows_service(shop, thing) shortages(shop) "
               "shows_shortages(shop, many, thing)",
    "rings": "rings(shop, one, other) chains(shop, one, other) settled(shop, one, other) fewest(shop, one, other) "
             "way(one, other)",
    "rows": "row_to(shop, one, other, locked=()) shows_row(shop, one, other, thing) "
            "shows_shortest(shop, one, other, thing) shows_nearing(shop, one, other, thing)",
    "counting": "row_count(shop, one, other) first_exchanges(shop, one, other) row_at(shop, one, other, number) "
                "number_of(shop, one, other, row)",
    "reach": "can_come(shop, setting, machine, locked=()) still(shop, setting, locked=()) "
             "fewest_for(shop, setting, machine, size, locked=()) row_for(shop, setting, machine, size, locked=())",
    "totals": "setting_count(shop) setting_at(shop, number) setting_number(shop, setting) all_settings(shop)",
    "sightings": "hulls(settings) bounds(trials, machine) result(trials, machine, size)",
    "changes": "with_range(shop, machine, low, high) with_spindle(shop, size) without_spindle(shop, size) "
               "with_machine(shop, low, high) renamed(shop, order)",
    "texts": "shop_text(shop) setting_text(setting) row_text(row) shop_in(text) setting_in(shop, text) row_in(text)",
    "sheet": "answers(text)",
}


def signatures(text):
    """The pairs of name and parameters, as written."""
    return [tuple(part.split("(", 1)) for part in text.replace(") ", ")|").split("|")]


class Interface(unittest.TestCase):
    def test_parameters(self):
        for module, text in WRITTEN.items():
            for name, parameters in signatures(text):
                with self.subTest(module, name=name):
                    function = getattr(importlib.import_module("spindlefit." + module), name)
                    self.assertEqual(str(inspect.signature(function)), "(" + parameters)
                    self.assertEqual(function.__module__, "spindlefit." + module)


if __name__ == "__main__":
    unittest.main()
