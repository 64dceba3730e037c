"""The examples of the document, word for word."""

import ast
import re
import unittest
from pathlib import Path

from spindlefit import (
    counting, errors, exchanges, floor, reach, rings, rows, service, settings, sheet, shops, sightings, texts, totals,
)

# Point -> the modules that its examples use, and the examples.
EXAMPLES = {
    4: ([shops], """
    >>> is_setting(shop, (2, 3, 5)), is_setting(shop, (5, 2, 3))
    (True, False)
    >>> rack(shop, (2, 3, 5))
    (7, 8)
    """),
    5: ([exchanges], """
      >>> exchanges(shop, (2, 3, 5))
      [('swap', 0, 1), ('swap', 1, 2), ('take', 1, 7), ('take', 2, 7), ('take', 2, 8)]
      >>> exchanged(shop, (2, 3, 5), ("take", 1, 8))
      raises Unfit(1)
      >>> back(shop, (2, 3, 5), [("take", 2, 8), ("swap", 0, 1)])
      [('swap', 0, 1), ('take', 2, 5)]
    """),
    6: ([settings], """
      >>> verdict(shop)
      ('setting', (2, 3, 5))
      >>> verdict(((2, 3, 9), ((1, 4), (2, 4), (2, 3))))[0]
      'overfull'
      >>> can_hold(shop, 1), can_lie(shop)
      ([2, 3, 5, 7], [2, 3, 5, 7, 8])
    """),
    7: ([service], """
      >>> poor = ((3, 4, 9), ((3, 4), (2, 4), (4, 5), (9, 9)))
      >>> most_served(poor), shows_shortages(poor, 1, [(2, 5)]), shows_service(poor, (3, None, 4, 9))
      (3, True, True)
    """),
    8: ([rings], """
      >>> rings(shop, (2, 3, 5), (3, 2, 8)), chains(shop, (2, 3, 5), (3, 2, 8))
      ([[0, 1]], [[2]])
      >>> fewest(shop, (2, 3, 5), (3, 2, 8)), way((2, 3, 5), (3, 2, 8))
      (2, 5)
    """),
    9: ([rows], """
      >>> shows_nearing(shop, (2, 3, 5), (3, 2, 8), row_to(shop, (2, 3, 5), (3, 2, 8)))
      True
      >>> shows_shortest(shop, (2, 3, 5), (3, 2, 8), [("swap", 0, 1), ("take", 2, 8)])
      True
      >>> row_to(shop, (2, 3, 5), (3, 2, 8), (0, 2))
      raises Locked(0)
    """),
    10: ([counting], """
      >>> row_count(shop, (2, 3, 5), (3, 2, 8)), row_at(shop, (2, 3, 5), (3, 2, 8), 1)
      (2, [('take', 2, 8), ('swap', 0, 1)])
      >>> row_count(shop, (2, 3, 5), (3, 5, 7))
      7
    """),
    11: ([reach], """
      >>> can_come(shop, (2, 3, 5), 1, (0, 2)), still(shop, (2, 3, 5), (0, 2))
      ([3, 7], [0, 2])
      >>> fewest_for(shop, (2, 3, 5), 0, 3), row_for(shop, (2, 3, 5), 0, 3)
      (1, [('swap', 0, 1)])
    """),
    12: ([totals], """
      >>> setting_count(shop), setting_at(shop, 1), setting_number(shop, (3, 2, 8))
      (16, (2, 3, 7), 11)
    """),
    13: ([sightings], """
      >>> hulls([(2, 3, 5), (3, 2, 8)])
      ((2, 3), (2, 3), (5, 8))
      >>> bounds([(0, 4, "fits"), (0, 9, "large"), (1, 5, "small")], 0)
      ((1, 4), (4, 8))
      >>> result([(0, 4, "fits"), (0, 6, "fits")], 0, 5), result([(0, 4, "fits")], 0, 5)
      ('fits', 'open')
    """),
    16: ([floor], """
    >>> floor = Floor(shop, (2, 3, 5))
    >>> floor.swap(1, 0), floor.take(2, 8), floor.lock(0)
    ((2, 3), 5, None)
    >>> floor.setting(), floor.rack(), floor.possible()
    ((3, 2, 8), (5, 7), [('take', 1, 5), ('take', 1, 7), ('take', 2, 5), ('take', 2, 7)])
    >>> floor.undo(), floor.undo(), floor.setting(), repr(floor)
    (True, True, (3, 2, 5), 'Floor(3 machines, 5 spindles, 0 locked)')
    """),
    17: ([texts], """
      >>> shop_text(shop), row_text([("swap", 0, 1), ("take", 2, 8)])
      ('2 3 5 7 8 / 1-4 2-7 3-9', '0x1 2<8')
      >>> setting_in(shop, "5 2 3")
      raises BadText('5 2 3')
    """),
    18: ([sheet], r"""
    >>> answers("shop 2 3 5 7 8 / 1-4 2-7 3-9\nset 2 3 5\nswap 1 0\ntake 0 7\nto 2 3 8\nhold 0\nrack")
    ['2 3', 'error Unfit', '2', '2 3', '7 8']
    """),
}


def lines_of(text):
    return [line.strip() for line in text.strip().split("\n")]


class Examples(unittest.TestCase):
    def test_they_stand_in_the_document(self):
        document = Path(__file__).resolve().parent.parent.parent / "shared" / "DOC.md"
        if not document.exists():
            self.skipTest("the document is not here")
        words = [line.strip() for line in document.read_text().split("\n")]
        examples = [line for line in words if line.startswith(">>> ")]
        here = [line for modules, text in EXAMPLES.values() for line in lines_of(text)]
        self.assertEqual([line for line in here if line not in words], [])
        self.assertEqual([line for line in examples if line not in here], [])

    def check(self, line, expected, names):
        raised = re.fullmatch(r"raises (\w+)\((.*)\)", expected)
        if not raised:
            self.assertEqual(repr(eval(line, names)), expected, line)
            return
        error = getattr(errors, raised.group(1))
        with self.assertRaises(error) as caught:
            eval(line, names)
        self.assertEqual(list(vars(caught.exception).values()), [ast.literal_eval(raised.group(2))], line)

    def test_each(self):
        for point, (modules, text) in EXAMPLES.items():
            names = {"shop": ((2, 3, 5, 7, 8), ((1, 4), (2, 7), (3, 9)))}
            for module in modules:
                names.update(vars(module))
            lines = lines_of(text)
            for line, following in zip(lines, lines[1:] + [">>> "]):
                if line.startswith(">>> ") and not following.startswith(">>> "):
                    with self.subTest(point=point):
                        self.check(line[4:], following, names)
                elif line.startswith(">>> "):
                    exec(line[4:], names)


if __name__ == "__main__":
    unittest.main()
