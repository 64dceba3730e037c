import math
import random
import unittest

from common import (
    HUGE, LISTED_SHOP, MIXED_SHOPS, SETTINGS, SHOP, TIGHT, WIDE, WITHOUT, Case, fit, large_shops,
    pairs_at_the_bounds, settings_of, small_shops,
)
from spindlefit.errors import NoNumber, TooMany
from spindlefit.limits import MOST_LISTED
from spindlefit.settings import verdict
from spindlefit.totals import all_settings, setting_at, setting_count, setting_number

# Three in order out of five, and one out of five.
JUST_LISTED = ((1, 2, 3, 4, 5, 10, 11, 12, 13, 14), ((1, 5), (1, 5), (1, 5), (10, 14)))


def counted(shop):
    """How many settings there are, set of sizes by set of sizes, machine by machine."""
    ways = {frozenset(): 1}
    for low, high in shop[1]:
        after = {}
        for held, many in ways.items():
            for size in shop[0]:
                if low <= size <= high and size not in held:
                    after[held | {size}] = after.get(held | {size}, 0) + many
        ways = after
    return sum(ways.values())


class SmallShops(Case):
    def test_all_settings_by_a_search(self):
        seen = {True: 0, False: 0}
        for shop in small_shops("totals", 150):
            found = settings_of(shop)
            self.assertEqual(found, sorted(found))
            seen[bool(found)] += 1
            self.returns(len(found), setting_count, shop)
            for number in range(0, len(found), max(1, len(found) // 8)):
                self.returns(found[number], setting_at, shop, number)
                self.returns(number, setting_number, shop, found[number])
            if len(found) <= 300:
                self.returns(found, all_settings, shop)
            else:
                self.fails(TooMany(len(found)), all_settings, shop)
        self.assertGreater(min(seen.values()), 30)

    def test_every_number(self):
        for shop in small_shops("numbers", 60) + [SHOP] + TIGHT:
            found = settings_of(shop)
            self.assertEqual([setting_at(shop, number) for number in range(len(found))], found)
            self.assertEqual([setting_number(shop, setting) for setting in found], list(range(len(found))))

    def test_the_first_is_that_of_verdict(self):
        for shop in small_shops("first", 100) + TIGHT + [SHOP]:
            if setting_count(shop):
                self.assertEqual(verdict(shop), ("setting", setting_at(shop, 0)))
            else:
                self.assertEqual(verdict(shop)[0], "overfull")

    def test_no_number(self):
        for shop in small_shops("outside", 30) + [SHOP, TIGHT[0]] + WITHOUT[:4]:
            many = len(settings_of(shop))
            for number in (-1, -2, -many, -many - 1, many, many + 1, 2 * many, 10 ** 30, HUGE, -HUGE):
                if not 0 <= number < many:
                    self.fails(NoNumber(number), setting_at, shop, number)

    def test_shops_without_any_setting(self):
        for shop in WITHOUT:
            self.returns(0, setting_count, shop)
            self.returns([], all_settings, shop)
            for number in (0, 1, -1, HUGE, -HUGE):
                self.fails(NoNumber(number), setting_at, shop, number)

    def test_ranges_beyond_all_sizes(self):
        for ranges in (((6, 9),), ((1, 3),), ((1, 9), (6, 6)), ((1, 3), (1, 9)), ((6, 7), (1, 3))):
            self.returns(0, setting_count, ((4, 5), ranges))
            self.returns([], all_settings, ((4, 5), ranges))

    def test_the_shop(self):
        for shop in [SHOP] + MIXED_SHOPS:
            self.returns(16, setting_count, shop)
            self.returns(SETTINGS, all_settings, shop)
            self.returns((2, 3, 7), setting_at, shop, 1)
            self.returns(11, setting_number, shop, [3, 2, 8])

    def test_by_name(self):
        self.assertEqual(setting_count(shop=LISTED_SHOP), 16)
        self.assertEqual(setting_at(number=1, shop=LISTED_SHOP), (2, 3, 7))
        self.assertEqual(setting_number(setting=[3, 2, 8], shop=LISTED_SHOP), 11)
        self.assertEqual(all_settings(shop=LISTED_SHOP), SETTINGS)


class Listed(Case):
    def test_just_as_many_as_may_be_listed(self):
        self.assertEqual(MOST_LISTED, 300)
        self.returns(300, setting_count, JUST_LISTED)
        self.returns(settings_of(JUST_LISTED), all_settings, JUST_LISTED)

    def test_one_more(self):
        shop = (tuple(range(1, 10)), ((1, 7), (2, 8), (1, 9)))
        self.assertEqual(len(settings_of(shop)), 301)
        self.fails(TooMany(301), all_settings, shop)
        for single in ((tuple(range(1, 302)), ((1, 301),)), (tuple(range(5, 306)), ((2, 400),))):
            self.fails(TooMany(301), all_settings, single)
            fewer = (single[0][:300], single[1])
            self.assertEqual(all_settings(fewer), [(size,) for size in fewer[0]])

    def test_somewhat_more(self):
        for shop in small_shops("many", 200) + large_shops("many", 60):
            many = counted(shop)
            if many > 300:
                self.fails(TooMany(many), all_settings, shop)
        self.fails(TooMany(19958400), all_settings, WIDE)
        self.fails(TooMany(360), all_settings, ((1, 2, 3, 4, 5, 6), ((1, 6),) * 4))


class LargeShops(Case):
    def test_all_fit(self):
        many = math.factorial(12) // math.factorial(4)
        self.returns(many, setting_count, WIDE)
        self.returns(tuple(range(1, 9)), setting_at, WIDE, 0)
        self.returns(tuple(range(12, 4, -1)), setting_at, WIDE, many - 1)
        self.returns(many - 1, setting_number, WIDE, tuple(range(12, 4, -1)))
        self.fails(NoNumber(many), setting_at, WIDE, many)
        rng = random.Random("wide")
        for _ in range(20):
            setting = tuple(rng.sample(range(1, 13), 8))
            self.assertEqual(setting_at(WIDE, setting_number(WIDE, setting)), setting)

    def test_counts(self):
        shops = [shop for shop, _, _ in pairs_at_the_bounds("totals", 30)] + large_shops("totals", 60)
        shops += [shop for shop, _, _ in pairs_at_the_bounds("far", 6, greatest=10 ** 9)]
        seen = {True: 0, False: 0}
        for shop in shops:
            many = counted(shop)
            seen[many > 0] += 1
            self.assertEqual(setting_count(shop), many)
            for number in sorted({0, many // 3, many // 2, many - 1}):
                if 0 <= number < many:
                    self.assertEqual(setting_number(shop, setting_at(shop, number)), number)
            with self.assertRaises(NoNumber):
                setting_at(shop, many)
        self.assertGreater(min(seen.values()), 15)

    def test_settings_of_large_shops_ascend(self):
        for shop, one, other in pairs_at_the_bounds("ascend", 30):
            first, second = setting_number(shop, one), setting_number(shop, other)
            self.assertEqual(first < second, one < other)
            self.assertEqual((setting_at(shop, first), setting_at(shop, second)), (one, other))

    def test_few_settings_of_large_shops(self):
        listed = 0
        for shop in large_shops("few", 200):
            many = counted(shop)
            if 0 < many <= 300:
                found = all_settings(shop)
                self.assertEqual((len(found), found), (many, sorted(set(found))))
                for setting in found:
                    self.assertEqual(len(set(setting) & set(shop[0])), 8)
                    self.assertTrue(all(fit(shop, machine, size) for machine, size in enumerate(setting)))
                for number in range(0, many, 25):
                    self.assertEqual(setting_at(shop, number), found[number])
                listed += 1
        self.assertGreater(listed, 10)

    def test_beyond_the_bounds(self):
        # Ten machines and fourteen spindles, as changes of a shop may give them.
        shop = (tuple(range(1, 15)), tuple((k, k + 6) for k in range(1, 11)))
        many = counted(shop)
        self.assertEqual(setting_count(shop), many)
        self.assertEqual(setting_number(shop, setting_at(shop, many // 2)), many // 2)


if __name__ == "__main__":
    unittest.main()
