import itertools
import random
import unittest

from common import HUGE, LISTED_SHOP, MIXED_SHOPS, NO_MACHINES, NO_SPINDLES, SHOP, WIDE, Case, small_shops
from spindlefit.changes import renamed, with_machine, with_range, with_spindle, without_spindle
from spindlefit.errors import Duplicate, LastSpindle, NoMachine, NoSpindle
from spindlefit.shops import is_shop

SIZES, RANGES = SHOP
SHOPS = [SHOP] + MIXED_SHOPS


class WithRange(Case):
    def test_each_machine(self):
        for shop in SHOPS:
            self.returns((SIZES, ((5, 6), (2, 7), (3, 9))), with_range, shop, 0, 5, 6)
            self.returns((SIZES, ((1, 4), (8, 8), (3, 9))), with_range, shop, 1, 8, 8)
            self.returns((SIZES, ((1, 4), (2, 7), (1, 10 ** 9))), with_range, shop, 2, 1, 10 ** 9)
            self.returns(SHOP, with_range, shop, 2, 3, 9)

    def test_no_machine(self):
        for shop in SHOPS:
            for machine in NO_MACHINES:
                self.fails(NoMachine(machine), with_range, shop, machine, 1, 4)

    def test_one_machine(self):
        self.returns(((4,), ((5, 6),)), with_range, ((4,), ((1, 9),)), 0, 5, 6)
        self.fails(NoMachine(1), with_range, ((4,), ((1, 9),)), 1, 5, 6)
        self.fails(NoMachine(-1), with_range, ((4,), ((1, 9),)), -1, 5, 6)


class Spindles(Case):
    def test_below_between_and_above(self):
        for shop in SHOPS:
            self.returns(((1, 2, 3, 5, 7, 8), RANGES), with_spindle, shop, 1)
            self.returns(((2, 3, 4, 5, 7, 8), RANGES), with_spindle, shop, 4)
            self.returns(((2, 3, 5, 6, 7, 8), RANGES), with_spindle, shop, 6)
            self.returns(((2, 3, 5, 7, 8, 9), RANGES), with_spindle, shop, 9)
            self.returns(((2, 3, 5, 7, 8, 10 ** 9), RANGES), with_spindle, shop, 10 ** 9)

    def test_duplicate(self):
        for shop in SHOPS:
            for size in SIZES:
                self.fails(Duplicate(size), with_spindle, shop, size)
        for size in WIDE[0]:
            self.fails(Duplicate(size), with_spindle, WIDE, size)

    def test_without(self):
        for shop in SHOPS:
            self.returns(((3, 5, 7, 8), RANGES), without_spindle, shop, 2)
            self.returns(((2, 3, 7, 8), RANGES), without_spindle, shop, 5)
            self.returns(((2, 3, 5, 7), RANGES), without_spindle, shop, 8)

    def test_no_spindle(self):
        for shop in SHOPS:
            for size in NO_SPINDLES:
                self.fails(NoSpindle(size), without_spindle, shop, size)

    def test_no_spindle_comes_before_last_spindle(self):
        for shop in (((4,), ((1, 9),)), [[4], [[1, 9]]]):
            for size in (3, 5, 0, -4, HUGE, -HUGE):
                self.fails(NoSpindle(size), without_spindle, shop, size)
            self.fails(LastSpindle(), without_spindle, shop, 4)
        self.returns(((5,), ((1, 9),)), without_spindle, ((4, 5), ((1, 9),)), 4)

    def test_there_and_back(self):
        for shop in small_shops("spindles", 40):
            for size in range(1, 12):
                if size in shop[0]:
                    if len(shop[0]) > 1:
                        self.assertEqual(with_spindle(without_spindle(shop, size), size), shop)
                else:
                    self.assertEqual(without_spindle(with_spindle(shop, size), size), shop)


class Machines(Case):
    def test_one_more(self):
        for shop in SHOPS:
            self.returns((SIZES, RANGES + ((4, 6),)), with_machine, shop, 4, 6)
            self.returns((SIZES, RANGES + ((1, 4),)), with_machine, shop, 1, 4)
            self.returns((SIZES, RANGES + ((10 ** 9, 10 ** 9),)), with_machine, shop, 10 ** 9, 10 ** 9)

    def test_renamed(self):
        for shop in SHOPS:
            self.returns(SHOP, renamed, shop, [0, 1, 2])
            self.returns((SIZES, ((2, 7), (3, 9), (1, 4))), renamed, shop, [1, 2, 0])
            self.returns((SIZES, ((3, 9), (1, 4), (2, 7))), renamed, shop, (2, 0, 1))
        for order in itertools.permutations(range(3)):
            self.returns((SIZES, tuple(RANGES[order[k]] for k in range(3))), renamed, SHOP, list(order))

    def test_renamed_twice(self):
        rng = random.Random("renamed")
        for shop in small_shops("renamed", 30):
            order = list(range(len(shop[1])))
            rng.shuffle(order)
            reverse = [order.index(machine) for machine in range(len(order))]
            self.assertEqual(renamed(renamed(shop, order), reverse), shop)


class Results(Case):
    def test_beyond_the_bounds(self):
        shop = with_spindle(WIDE, 13)
        self.assertEqual(shop, (tuple(range(1, 14)), WIDE[1]))
        for machine in range(8, 40):
            shop = with_machine(shop, machine, machine)
            shop = with_spindle(shop, machine + 10)
            self.assertTrue(is_shop(shop))
            self.assertEqual(len(shop[1]), machine + 1)
        self.assertEqual(shop[0], tuple(range(1, 14)) + tuple(range(18, 50)))
        self.assertEqual(renamed(shop, list(range(40))[::-1])[1], shop[1][::-1])
        self.assertEqual(with_range(shop, 39, 1, 2)[1][39], (1, 2))

    def test_they_are_shops(self):
        for shop in small_shops("changes", 20):
            for changed in (with_range(shop, 0, 3, 3), with_spindle(shop, 12), with_machine(shop, 2, 5)):
                self.assertTrue(is_shop(changed))

    def test_the_given_pair_is_copied(self):
        pair, sizes = [1, 4], [2, 3]
        shop = [sizes, [pair, [2, 7]]]
        changed = [with_range(shop, 1, 5, 6), with_machine(shop, 5, 6), with_spindle(shop, 9), renamed(shop, [0, 1])]
        pair[0] = 3
        sizes.append(4)
        for sizes_then, ranges in changed:
            self.assertEqual((ranges[0], sizes_then[:2], 4 in sizes_then), ((1, 4), (2, 3), False))

    def test_by_name(self):
        self.assertEqual(with_range(high=6, low=5, machine=0, shop=LISTED_SHOP), (SIZES, ((5, 6),) + RANGES[1:]))
        self.assertEqual(with_spindle(size=4, shop=LISTED_SHOP), ((2, 3, 4, 5, 7, 8), RANGES))
        self.assertEqual(without_spindle(size=5, shop=LISTED_SHOP), ((2, 3, 7, 8), RANGES))
        self.assertEqual(with_machine(high=6, low=5, shop=LISTED_SHOP), (SIZES, RANGES + ((5, 6),)))
        self.assertEqual(renamed(order=[2, 1, 0], shop=LISTED_SHOP), (SIZES, RANGES[::-1]))


if __name__ == "__main__":
    unittest.main()
