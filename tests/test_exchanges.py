import itertools
import unittest

from common import (
    HUGE, LISTED_SHOP, MIXED_SHOPS, NO_MACHINES, NO_SPINDLES, SETTINGS, SHOP, Case, moved, moves, pairs_at_the_bounds,
    shops_with_settings,
)
from spindlefit.errors import NoMachine, NotInRack, Unfit
from spindlefit.exchanges import back, exchanged, exchanged_all, exchanges

START = (2, 3, 5)
TIGHT = ((2, 5, 9), ((1, 3), (4, 6)))


class Exchanges(Case):
    def test_each_setting_of_the_shop(self):
        for shop in [SHOP] + MIXED_SHOPS:
            for setting in SETTINGS:
                self.returns(list(moves(SHOP, setting)), exchanges, shop, setting)

    def test_small_shops(self):
        for shop, found in shops_with_settings("exchanges", 40):
            for setting in found[::7]:
                self.returns(list(moves(shop, setting)), exchanges, shop, setting)

    def test_at_the_bounds(self):
        for shop, one, other in pairs_at_the_bounds("exchanges", 20):
            for setting in (one, other):
                self.assertEqual(exchanges(shop, setting), list(moves(shop, setting)))
        wide = (tuple(range(10 ** 9 - 11, 10 ** 9 + 1)), ((1, 10 ** 9),) * 8)
        found = exchanges(wide, wide[0][:8])
        self.assertEqual(len(found), 28 + 8 * 4)
        self.assertEqual(found[-1], ("take", 7, 10 ** 9))

    def test_none_is_possible(self):
        self.returns([], exchanges, TIGHT, (2, 5))
        self.returns([], exchanges, ((4,), ((1, 9),)), (4,))
        self.returns([], exchanges, ((4, 10), ((1, 9),)), (4,))
        self.returns([], exchanges, ((1, 2), ((1, 1), (1, 9))), (1, 2))
        self.returns([], exchanges, ((1, 2), ((1, 9), (2, 2))), (1, 2))

    def test_one_machine(self):
        self.returns([("take", 0, 3), ("take", 0, 5)], exchanges, ((2, 3, 4, 5, 6), ((3, 5),)), (4,))

    def test_an_empty_rack(self):
        self.returns([("swap", 0, 1)], exchanges, ((2, 3), ((1, 4), (1, 4))), (3, 2))


class Exchanged(Case):
    def test_every_exchange_of_every_setting(self):
        for setting in SETTINGS:
            possible = moves(SHOP, setting)
            for exchange, after in possible.items():
                self.returns(after, exchanged, SHOP, setting, exchange)
            tried = [("swap", one, other) for one, other in itertools.combinations(range(3), 2)]
            tried += [("take", machine, size) for machine in range(3) for size in range(-1, 11)]
            for exchange in tried:
                if exchange not in possible:
                    self.assertRaises((NotInRack, Unfit), exchanged, SHOP, setting, exchange)

    def test_lists_inside_lists(self):
        for shop in MIXED_SHOPS:
            for exchange in (["swap", 0, 1], ("swap", 0, 1)):
                self.returns((3, 2, 5), exchanged, shop, [2, 3, 5], exchange)
            self.returns((2, 3, 8), exchanged, shop, [2, 3, 5], ["take", 2, 8])

    def test_by_name(self):
        self.assertEqual(exchanged(exchange=["take", 2, 8], setting=START, shop=LISTED_SHOP), (2, 3, 8))

    def test_small_shops(self):
        for shop, found in shops_with_settings("exchanged", 30):
            for exchange, after in moves(shop, found[0]).items():
                self.returns(after, exchanged, shop, found[0], exchange)

    def test_the_first_machine_that_does_not_exist(self):
        for machine in NO_MACHINES:
            for size in (7, 2, 4, 0, -1, HUGE):
                self.fails(NoMachine(machine), exchanged, SHOP, START, ("take", machine, size))
        for one, other in itertools.combinations(sorted(NO_MACHINES), 2):
            self.fails(NoMachine(one), exchanged, SHOP, START, ("swap", one, other))
        for machine in NO_MACHINES:
            for there in range(3):
                pair = sorted([machine, there])
                self.fails(NoMachine(machine), exchanged, SHOP, START, ("swap", pair[0], pair[1]))

    def test_no_such_machine_comes_before_unfit(self):
        # The machine that exists could not take any other spindle either.
        for pair in ((-1, 0), (0, 2), (1, 2), (0, HUGE)):
            missing = pair[0] if pair[0] < 0 else pair[1]
            self.fails(NoMachine(missing), exchanged, TIGHT, (2, 5), ("swap", *pair))

    def test_not_in_the_rack(self):
        for setting in SETTINGS:
            for machine in range(3):
                for size in list(setting) + list(NO_SPINDLES):
                    self.fails(NotInRack(size), exchanged, SHOP, setting, ("take", machine, size))

    def test_not_in_the_rack_comes_before_unfit(self):
        # 8 is held and 9 is no spindle; neither fits machine 0.
        self.fails(NotInRack(8), exchanged, SHOP, (2, 3, 8), ("take", 0, 8))
        self.fails(NotInRack(9), exchanged, SHOP, (2, 3, 8), ("take", 0, 9))
        self.fails(Unfit(0), exchanged, SHOP, (2, 3, 5), ("take", 0, 8))

    def test_unfit(self):
        self.fails(Unfit(1), exchanged, SHOP, START, ("take", 1, 8))
        self.fails(Unfit(0), exchanged, SHOP, START, ("take", 0, 7))
        self.fails(Unfit(1), exchanged, TIGHT, (2, 5), ("take", 1, 9))

    def test_the_first_machine_that_is_unfit(self):
        # Both are unfit, only the first, only the second.
        self.fails(Unfit(0), exchanged, TIGHT, (2, 5), ("swap", 0, 1))
        self.fails(Unfit(0), exchanged, ((2, 5), ((1, 3), (1, 9))), (2, 5), ("swap", 0, 1))
        self.fails(Unfit(1), exchanged, ((2, 5), ((1, 9), (4, 9))), (2, 5), ("swap", 0, 1))
        self.fails(Unfit(0), exchanged, SHOP, START, ("swap", 0, 2))
        self.fails(Unfit(2), exchanged, ((2, 5, 6), ((1, 9), (1, 9), (6, 6))), (2, 5, 6), ("swap", 1, 2))


def walks(shop, setting, length):
    """Rows of that length, each exchange another one of those that are possible."""
    for turn in range(3):
        here, row = setting, []
        for step in range(length):
            possible = list(moves(shop, here).items())
            if possible:
                exchange, here = possible[(turn * 5 + step * 3) % len(possible)]
                row.append(exchange)
        yield row, here


class Rows(Case):
    def test_the_empty_row(self):
        for shop in [SHOP] + MIXED_SHOPS:
            for setting in (START, list(START)):
                self.returns(START, exchanged_all, shop, setting, [])
                self.returns([], back, shop, setting, [])
                self.returns([], back, shop, setting, ())

    def test_there_and_back_again(self):
        for shop, found in shops_with_settings("rows", 25) + [(SHOP, SETTINGS)]:
            for length in (1, 2, 7, 60):
                for row, end in walks(shop, found[-1], length):
                    self.returns(end, exchanged_all, shop, found[-1], row)
                    home = self.call(back, shop, found[-1], row)
                    self.assertEqual(len(home), len(row))
                    self.assertEqual(exchanged_all(shop, end, home), found[-1])
                    self.returns(row, back, shop, end, home)

    def test_back_by_its_definition(self):
        for row, _ in walks(SHOP, START, 30):
            expected, here = [], START
            for word, first, second in row:
                expected.insert(0, (word, first, second if word == "swap" else here[first]))
                here = moved(SHOP, here, (word, first, second))
            self.returns(expected, back, SHOP, START, row)

    def test_lists_for_triples(self):
        row = (["take", 2, 8], ["swap", 0, 1])
        for shop in MIXED_SHOPS:
            self.returns((3, 2, 8), exchanged_all, shop, [2, 3, 5], row)
            self.returns([("swap", 0, 1), ("take", 2, 5)], back, shop, [2, 3, 5], row)

    def test_by_name(self):
        row = [("take", 2, 8)]
        self.assertEqual(exchanged_all(row=row, setting=START, shop=SHOP), (2, 3, 8))
        self.assertEqual(back(row=row, setting=START, shop=SHOP), [("take", 2, 5)])

    def test_one_that_is_not_possible(self):
        wrong = [
            (("take", 5, 7), NoMachine(5)), (("swap", -1, 1), NoMachine(-1)), (("swap", 1, HUGE), NoMachine(HUGE)),
            (("take", 0, 4), NotInRack(4)), (("take", 0, 0), NotInRack(0)), (("take", 0, 8), Unfit(0)),
            (("take", 1, 8), Unfit(1)), (("swap", 0, 2), Unfit(0)),
        ]
        # A row that comes by START again and again, so that each of the wrong ones fails in the same way anywhere.
        right = [("swap", 0, 1), ("swap", 0, 1), ("take", 2, 7), ("take", 2, 5)]
        for exchange, error in wrong:
            for at in (0, 2, 4):
                row = right[:at] + [exchange] + right[at:]
                self.fails(error, exchanged_all, SHOP, START, row)
                self.fails(error, back, SHOP, START, row)

    def test_the_first_of_several_that_are_not_possible(self):
        row = [("take", 2, 7), ("take", 0, 8), ("take", 9, 9), ("take", 0, 4)]
        for first, error in ((0, Unfit(0)), (2, NoMachine(9)), (3, NotInRack(4))):
            kept = row[:1] + row[max(first, 1):]
            self.fails(error, exchanged_all, SHOP, START, kept)
            self.fails(error, back, SHOP, START, kept)

    def test_possible_at_first_but_no_more_in_its_turn(self):
        row = [("take", 2, 8), ("take", 2, 8)]
        self.fails(NotInRack(8), exchanged_all, SHOP, START, row)
        self.fails(NotInRack(8), back, SHOP, START, row)
        row = [("take", 1, 7), ("swap", 0, 1)]
        self.fails(Unfit(0), exchanged_all, SHOP, START, row)
        self.fails(Unfit(0), back, SHOP, START, row)

    def test_possible_only_in_its_turn(self):
        row = [("take", 1, 7), ("take", 0, 3), ("take", 1, 2)]
        self.fails(NotInRack(3), exchanged_all, SHOP, START, row[1:])
        self.returns((3, 2, 5), exchanged_all, SHOP, START, row)


if __name__ == "__main__":
    unittest.main()
