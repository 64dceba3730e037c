import itertools
import unittest

from common import (
    HUGE, LISTED_SHOP, MIXED_SHOPS, NO_MACHINES, SHOP, TIGHT, WITHOUT, WRONG_PARTS, Case, large_shops, matched_beside,
    near, nested, pairs_at_the_bounds, settings_of, shortage_of, small_shops,
)
from spindlefit.errors import NoMachine, NoSetting
from spindlefit.settings import can_hold, can_lie, certain, shows_overfull, verdict


class Verdict(Case):
    def check(self, shop, first):
        """first is the first setting, or None."""
        answer = self.call(verdict, shop)
        if first is not None:
            self.assertEqual(answer, ("setting", first))
            return
        self.assertEqual((type(answer), len(answer), answer[0]), (tuple, 3, "overfull"))
        self.assertEqual([type(end) for end in answer[1:]], [int, int])
        self.assertLessEqual(answer[1], answer[2])
        self.assertGreater(shortage_of(shop, answer[1], answer[2]), 0)
        self.yes(shows_overfull, shop, answer[1:])

    def test_small_shops(self):
        seen = {True: 0, False: 0}
        for shop in small_shops("verdict", 400):
            found = settings_of(shop)
            self.check(shop, found[0] if found else None)
            seen[bool(found)] += 1
        self.assertGreater(min(seen.values()), 50)

    def test_all_shops_of_two_machines_and_three_sizes(self):
        pairs = [(low, high) for low in range(1, 5) for high in range(low, 5)]
        for many in (1, 2, 3):
            for sizes in itertools.combinations(range(1, 5), many):
                for ranges in itertools.product(pairs, repeat=2):
                    answer = verdict((sizes, ranges))
                    found = settings_of((sizes, ranges))
                    if found:
                        self.assertEqual(answer, ("setting", found[0]))
                    else:
                        self.assertEqual(answer[0], "overfull")
                        self.assertGreater(shortage_of((sizes, ranges), answer[1], answer[2]), 0)

    def test_without_any_setting(self):
        for shop in WITHOUT:
            self.assertEqual(settings_of(shop) if len(shop[1]) < 8 else [], [])
            self.check(shop, None)

    def test_tight_shops(self):
        for shop in TIGHT:
            self.check(shop, settings_of(shop)[0])

    def test_eight_machines_and_twelve_spindles(self):
        shops = [shop for shop, _, _ in pairs_at_the_bounds("verdict", 25)] + large_shops("verdict", 60)
        seen = {True: 0, False: 0}
        for shop in shops:
            first = self.first_by_matching(shop)
            seen[first is not None] += 1
            self.check(shop, first)
        self.assertGreater(min(seen.values()), 10)

    def first_by_matching(self, shop):
        if not matched_beside(shop, {}):
            return None
        held = {}
        for machine in range(len(shop[1])):
            held[machine] = next(size for size in shop[0] if matched_beside(shop, {**held, machine: size}))
        return tuple(held.values())

    def test_lists_for_tuples(self):
        for shop in MIXED_SHOPS:
            self.returns(("setting", (2, 3, 5)), verdict, shop)
        self.assertEqual(verdict(shop=LISTED_SHOP), verdict(SHOP))


class ShowsOverfull(Case):
    def test_all_pairs_near_the_sizes(self):
        for shop in small_shops("overfull", 60) + [SHOP] + WITHOUT[:7]:
            for low, high in itertools.product(range(-2, 20), repeat=2):
                expected = low <= high and shortage_of(shop, low, high) > 0
                self.assertIs(shows_overfull(shop, (low, high)), expected)

    def test_very_large_and_negative_ends(self):
        many = ((4, 5), ((1, 9), (1, 9), (1, 9)))
        for low in (1, 0, -1, -10 ** 30, -HUGE):
            for high in (9, 10, 10 ** 9, HUGE):
                self.yes(shows_overfull, many, (low, high))
                self.no(shows_overfull, SHOP, (low, high))
        for low, high in [(2, HUGE), (-HUGE, 8), (-HUGE, -HUGE), (HUGE, HUGE), (-5, -3), (0, 0), (HUGE, -HUGE)]:
            self.no(shows_overfull, many, (low, high))

    def test_low_above_high(self):
        for pair in [(9, 1), (5, 4), (HUGE, -HUGE), (1, 0), (1, -1)]:
            self.no(shows_overfull, WITHOUT[0], pair)

    def test_a_shortage_of_0_is_not_overfull(self):
        self.no(shows_overfull, ((4, 5), ((1, 9), (1, 9))), (1, 9))
        self.no(shows_overfull, ((4,), ((5, 9),)), (4, 9))
        self.yes(shows_overfull, ((4,), ((5, 9),)), (5, 9))

    def test_a_list_for_the_pair(self):
        for shop in [WITHOUT[0], [[4, 5], [[1, 9], [1, 9], [1, 9]]]]:
            self.yes(shows_overfull, shop, (1, 9))
            self.no(shows_overfull, shop, [1, 9])

    def test_true_and_false_are_no_numbers(self):
        shop = ((4,), ((1, 1),))
        self.yes(shows_overfull, shop, (1, 1))
        self.yes(shows_overfull, shop, (0, 1))
        for thing in [(True, True), (True, 1), (1, True), (False, 1), (False, True), (0, True)]:
            self.no(shows_overfull, shop, thing)

    def test_other_values(self):
        shop = WITHOUT[0]
        others = [("1", "9"), "19", (1,), (1, 9, 9), ((1, 9),), [(1, 9)], ((1, 9), (1, 9)), (None, 9), (1, None), "",
                  nested((1, 9), 6), (1, (9,)), ("overfull", 1, 9), ([], []), ((1,), (9,))]
        for thing in WRONG_PARTS + others:
            self.no(shows_overfull, shop, thing)

    def test_near_the_pair(self):
        shop = WITHOUT[0]
        for thing in near((1, 9)):
            plain = type(thing) is tuple and [type(part) for part in thing] == [int, int]
            self.assertIs(shows_overfull(shop, thing), plain and thing[0] <= 1 and thing[1] >= 9)

    def test_by_name(self):
        self.assertIs(shows_overfull(thing=(1, 9), shop=WITHOUT[0]), True)


class WhatCanBeHeld(Case):
    def test_small_shops(self):
        for shop in small_shops("held", 250):
            found = settings_of(shop)
            for machine in range(len(shop[1])):
                self.returns(sorted({setting[machine] for setting in found}), can_hold, shop, machine)
            lying = [size for size in shop[0] if any(size not in setting for setting in found)]
            self.returns(lying, can_lie, shop)
            self.check_certain(shop, found)

    def check_certain(self, shop, found):
        if not found:
            self.fails(NoSetting(), certain, shop)
            return
        held = [sorted({setting[machine] for setting in found}) for machine in range(len(shop[1]))]
        self.returns(tuple(sizes[0] if len(sizes) == 1 else None for sizes in held), certain, shop)

    def test_tight_shops(self):
        for shop in TIGHT:
            self.check_certain(shop, settings_of(shop))
        self.returns((3, 2, 1), certain, ((1, 2, 3), ((1, 3), (1, 2), (1, 1))))
        self.returns((None, None, 9), certain, ((2, 3, 9), ((1, 4), (1, 4), (1, 9))))
        self.returns([], can_lie, ((2, 3), ((1, 4), (1, 4))))
        self.returns([5], can_lie, ((4, 5), ((1, 4),)))

    def test_there_are_no_settings(self):
        for shop in WITHOUT:
            for machine in range(len(shop[1])):
                self.returns([], can_hold, shop, machine)
            self.returns([], can_lie, shop)
            self.fails(NoSetting(), certain, shop)

    def test_no_machine(self):
        for machine in NO_MACHINES:
            for shop in [SHOP] + MIXED_SHOPS + WITHOUT:
                if not 0 <= machine < len(shop[1]):
                    self.fails(NoMachine(machine), can_hold, shop, machine)
        self.fails(NoMachine(1), can_hold, ((4,), ((5, 9),)), 1)

    def test_eight_machines_and_twelve_spindles(self):
        pairs = pairs_at_the_bounds("held", 10) + pairs_at_the_bounds("far", 5, greatest=10 ** 9)
        shops = [shop for shop, _, _ in pairs] + large_shops("held", 15)
        for shop in shops:
            held = [[size for size in shop[0] if matched_beside(shop, {machine: size})] for machine in range(8)]
            for machine in range(8):
                self.assertEqual(can_hold(shop, machine), held[machine])
            self.assertEqual(can_lie(shop), [
                size for size in shop[0] if matched_beside((tuple(set(shop[0]) - {size}), shop[1]), {})
            ])
            if held[0]:
                self.assertEqual(certain(shop), tuple(row[0] if len(row) == 1 else None for row in held))

    def test_lists_for_tuples(self):
        for shop in MIXED_SHOPS:
            self.returns([2, 3, 5, 7], can_hold, shop, 1)
            self.returns([2, 3, 5, 7, 8], can_lie, shop)
            self.returns((None, None, None), certain, shop)
        self.assertEqual(can_hold(machine=0, shop=LISTED_SHOP), [2, 3])
        self.assertEqual(can_lie(shop=LISTED_SHOP), [2, 3, 5, 7, 8])
        self.assertEqual(certain(shop=LISTED_SHOP), (None, None, None))


if __name__ == "__main__":
    unittest.main()
