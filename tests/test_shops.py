import itertools
import unittest

from common import (
    HUGE, LISTED_SHOP, MIXED_SHOPS, SETTINGS, SHOP, WRONG_PARTS, Case, kinds_of, nested, part_at, places, replaced,
)
from spindlefit.errors import NoMachine
from spindlefit.shops import fits, holder, is_setting, is_shop, rack


class IsShop(Case):
    def test_shops(self):
        for thing in [
            SHOP,
            ((1,), ((1, 1),)),
            ((7,), ((1, 1),)),
            ((1, 2), ((9, 9), (9, 9), (1, 10 ** 9))),
            ((10 ** 9,), ((10 ** 9, 10 ** 9),)),
            ((10 ** 100, 10 ** 100 + 1), ((1, 10 ** 100),)),
            (tuple(range(1, 13)), tuple((1, k) for k in range(1, 9))),
        ]:
            with self.subTest(thing):
                self.yes(is_shop, thing)

    def test_the_bounds_do_not_apply(self):
        self.assertIs(is_shop(((1, HUGE, HUGE + 1), ((HUGE, HUGE + 7),))), True)
        self.assertIs(is_shop((tuple(range(1, 20001)), ((1, 4),) * 20000)), True)
        self.assertIs(is_shop((tuple(range(0, 20001)), ((1, 4),) * 20000)), False)
        self.assertIs(is_shop((tuple(range(1, 20001)), ((1, 4),) * 20000 + ((5, 4),))), False)

    def test_by_name(self):
        self.assertIs(is_shop(thing=SHOP), True)
        self.assertIs(is_shop(thing=LISTED_SHOP), False)

    def test_a_list_for_a_tuple_at_each_place(self):
        for path in places(SHOP):
            part = part_at(SHOP, path)
            if isinstance(part, tuple):
                with self.subTest(path):
                    self.no(is_shop, replaced(SHOP, path, list(part)))
        for thing in MIXED_SHOPS:
            self.no(is_shop, thing)

    def test_true_and_false_are_no_numbers(self):
        self.no(is_shop, ((True,), ((1, 1),)))
        self.no(is_shop, ((True, 2), ((1, 1),)))
        self.no(is_shop, ((1,), ((True, 1),)))
        self.no(is_shop, ((1,), ((1, True),)))
        self.no(is_shop, ((False, 1), ((1, 1),)))
        self.no(is_shop, ((1,), ((1, 1), (False, 1))))

    def test_sizes_begin_at_1(self):
        for low in (0, -1, -HUGE):
            self.assertIs(is_shop(((low,), ((1, 1),))), False)
            self.assertIs(is_shop(((low, 1, 2), ((1, 1),))), False)
            self.assertIs(is_shop(((1,), ((low, 1),))), False)
            self.assertIs(is_shop(((1,), ((low, low),))), False)
            self.assertIs(is_shop(((1,), ((1, 1), (1, low)))), False)

    def test_sizes_ascend(self):
        for sizes in [(2, 2), (3, 2), (1, 2, 2), (1, 1, 2), (1, 3, 2), (2, 1, 3), (3, 2, 1), (1, 2, 3, 1)]:
            with self.subTest(sizes):
                self.no(is_shop, (sizes, ((1, 4),)))

    def test_low_is_at_most_high(self):
        self.no(is_shop, ((1,), ((2, 1),)))
        self.no(is_shop, ((1,), ((1, 1), (5, 4))))
        self.no(is_shop, ((1,), ((5, 4), (1, 1))))
        self.yes(is_shop, ((1,), ((4, 4), (1, 1))))
        self.yes(is_shop, ((1,), ((7, 9), (1, 2), (7, 9))))

    def test_nothing_is_empty_and_ranges_have_two_ends(self):
        for thing in [
            ((), ((1, 4),)), ((2,), ()), ((), ()), ((2,), ((),)), ((2,), ((1,),)), ((2,), ((1, 2, 3),)),
            ((2,), ((1, 4), ())), ((2,), ((1, 4), (4,))), ((2,), ((1, 4), (1, 4, 4))), ((2,), (1, 4)),
        ]:
            with self.subTest(thing):
                self.no(is_shop, thing)

    def test_two_parts(self):
        sizes, ranges = SHOP
        for thing in [
            (), (sizes,), (ranges,), (sizes, ranges, ()), (sizes, ranges, sizes), (sizes, ranges, None),
            (ranges, sizes), (SHOP,), (SHOP, SHOP), sizes, ranges, (sizes, sizes), (ranges, ranges), sizes + ranges,
        ]:
            with self.subTest(thing):
                self.no(is_shop, thing)

    def test_other_values(self):
        for thing in WRONG_PARTS + ["shop", "23", ("23", "14"), ("", ""), nested(SHOP, 4), nested(None, 8)]:
            self.no(is_shop, thing)

    def test_a_wrong_part_at_each_place(self):
        right = 0
        for path in places(SHOP):
            for part in WRONG_PARTS:
                thing = replaced(SHOP, path, part)
                answer = self.call(is_shop, thing)
                # A few of the parts are right at some places: a pair as the range, a 4 or HUGE as a size.
                self.assertIs(answer, self.by_the_words(thing), path)
                right += answer
        self.assertGreater(right, 0)

    def by_the_words(self, thing):
        """SHOP as point [4] defines it, by exact kinds and without the package."""
        try:
            sizes, ranges = thing
            kinds = [type(thing), type(sizes), type(ranges)] + [type(pair) for pair in ranges]
            ends = [end for pair in ranges for end in pair]
            numbers = list(sizes) + ends
            return (
                set(kinds) == {tuple} and {type(number) for number in numbers} == {int} and min(numbers) >= 1
                and len(sizes) > 0 and len(ranges) > 0 and list(sizes) == sorted(set(sizes))
                and all(len(pair) == 2 and pair[0] <= pair[1] for pair in ranges)
            )
        except (TypeError, ValueError):
            return False


class IsSetting(Case):
    def test_all_triples(self):
        for shop in [SHOP] + MIXED_SHOPS:
            found = [thing for thing in itertools.product(range(-1, 11), repeat=3) if is_setting(shop, thing)]
            self.assertEqual(found, SETTINGS)

    def test_true_and_false_themselves(self):
        for shop in [SHOP] + MIXED_SHOPS:
            self.yes(is_setting, shop, (2, 3, 5))
            self.no(is_setting, shop, (5, 2, 3))

    def test_by_name(self):
        self.assertIs(is_setting(shop=SHOP, thing=(2, 3, 5)), True)
        self.assertIs(is_setting(thing=(5, 2, 3), shop=LISTED_SHOP), False)

    def test_a_size_twice(self):
        for thing in [(3, 3, 5), (2, 3, 3), (3, 2, 3), (3, 3, 3), (2, 2, 5)]:
            self.no(is_setting, SHOP, thing)
        self.no(is_setting, ((1, 2), ((1, 2), (1, 2))), (1, 1))

    def test_a_size_that_is_no_spindle(self):
        for thing in [(1, 3, 5), (4, 3, 5), (2, 6, 5), (2, 3, 9), (2, 3, 4), (0, 3, 5), (-2, 3, 5), (2, 3, HUGE)]:
            self.no(is_setting, SHOP, thing)

    def test_both_ends_of_a_range_fit(self):
        shop = ((3, 4, 6, 7), ((4, 6),))
        self.assertEqual([k for k in range(10) if is_setting(shop, (k,))], [4, 6])

    def test_lengths(self):
        for thing in [(), (2,), (2, 3), (2, 3, 5, 7), (2, 3, 5, None), (2, 3, 5) * 30000]:
            self.no(is_setting, SHOP, thing)

    def test_a_list_is_no_setting(self):
        for shop in [SHOP] + MIXED_SHOPS:
            self.no(is_setting, shop, [2, 3, 5])
            self.no(is_setting, shop, [2])
            self.no(is_setting, shop, [])

    def test_true_and_false_are_no_numbers(self):
        self.yes(is_setting, ((1, 2), ((1, 2),)), (1,))
        self.no(is_setting, ((1, 2), ((1, 2),)), (True,))
        self.no(is_setting, ((1, 2), ((1, 2),)), (False,))
        self.no(is_setting, ((1, 2), ((1, 2), (1, 2))), (2, True))
        self.no(is_setting, ((1, 2), ((1, 2), (1, 2))), (True, 2))

    def test_other_values(self):
        for thing in WRONG_PARTS + ["235", "2 3 5", SHOP, (SETTINGS[0],), nested((2, 3, 5), 7), nested(None, 8)]:
            if kinds_of(thing) != kinds_of((2, 3, 5)):
                self.no(is_setting, SHOP, thing)

    def test_a_wrong_part_at_each_place(self):
        for at in range(3):
            for part in WRONG_PARTS + ["2", "3"]:
                thing = replaced((2, 3, 5), (at,), part)
                self.no(is_setting, SHOP, thing)

    def test_one_machine_and_one_spindle(self):
        self.yes(is_setting, ((4,), ((1, 9),)), (4,))
        self.no(is_setting, ((4,), ((1, 3),)), (4,))
        self.no(is_setting, ((4,), ((5, 9),)), (4,))
        self.no(is_setting, ((4,), ((1, 9),)), 4)

    def test_more_machines_than_spindles(self):
        shop = ((4, 5), ((1, 9), (1, 9), (1, 9)))
        for thing in itertools.product((4, 5), repeat=3):
            self.no(is_setting, shop, thing)

    def test_very_large_sizes(self):
        shop = ((10 ** 9 - 1, 10 ** 9), ((10 ** 9, 10 ** 9), (1, 10 ** 9)))
        self.yes(is_setting, shop, (10 ** 9, 10 ** 9 - 1))
        self.no(is_setting, shop, (10 ** 9 - 1, 10 ** 9))


class Fits(Case):
    def test_every_size_near_each_range(self):
        for shop in [SHOP] + MIXED_SHOPS:
            for machine, (low, high) in enumerate(SHOP[1]):
                for size in range(-3, 14):
                    expected = size in list(range(low, high + 1))
                    self.assertIs(self.call(fits, shop, machine, size), expected, (machine, size))

    def test_both_ends_and_one_beyond(self):
        shop = ((2,), ((5, 5), (3, 10 ** 9)))
        self.assertEqual([fits(shop, 0, size) for size in (4, 5, 6)], [False, True, False])
        self.assertEqual([fits(shop, 1, size) for size in (2, 3, 4)], [False, True, True])
        self.assertEqual([fits(shop, 1, 10 ** 9 + more) for more in (-1, 0, 1)], [True, True, False])

    def test_any_number(self):
        for machine in range(3):
            for size in (0, -1, -5, -HUGE, HUGE, 10 ** 9):
                self.assertIs(fits(SHOP, machine, size), False)

    def test_a_size_need_not_be_a_spindle(self):
        self.yes(fits, SHOP, 0, 1)
        self.yes(fits, SHOP, 2, 9)

    def test_by_name(self):
        self.assertIs(fits(shop=SHOP, machine=0, size=4), True)
        self.assertIs(fits(size=5, machine=0, shop=LISTED_SHOP), False)

    def test_no_machine(self):
        for shop in [SHOP] + MIXED_SHOPS:
            for machine in (-1, -2, -3, -4, 3, 4, 10 ** 9, -10 ** 30, HUGE, -HUGE):
                for size in (3, 0, -1, HUGE):
                    for _ in range(2):
                        with self.assertRaises(NoMachine) as caught:
                            fits(shop, machine, size)
                        self.assertEqual(caught.exception.machine, machine)
        with self.assertRaises(NoMachine) as caught:
            fits(shop=((1,), ((1, 1),)), machine=1, size=1)
        self.assertEqual(caught.exception.machine, 1)


class Rack(Case):
    def test_the_example(self):
        self.assertEqual(rack(SHOP, (2, 3, 5)), (7, 8))

    def test_each_setting(self):
        for shop in [SHOP] + MIXED_SHOPS:
            for setting in SETTINGS:
                expected = tuple(sorted({2, 3, 5, 7, 8} - set(setting)))
                for given in (setting, list(setting)):
                    answer = self.call(rack, shop, given)
                    self.assertEqual(answer, expected)
                    self.assertIs(type(answer), tuple)

    def test_an_empty_rack(self):
        for shop, setting in [(((4,), ((1, 9),)), (4,)), (((2, 3), ((1, 4), (1, 4))), (3, 2))]:
            self.assertEqual(self.call(rack, shop, setting), ())

    def test_one_spindle_left(self):
        self.assertEqual(rack(((2, 3, 10 ** 9), ((1, 4), (1, 4))), (3, 2)), (10 ** 9,))

    def test_by_name(self):
        self.assertEqual(rack(shop=SHOP, setting=(3, 2, 8)), (5, 7))
        self.assertEqual(rack(setting=[3, 2, 8], shop=LISTED_SHOP), (5, 7))


class Holder(Case):
    def test_each_setting(self):
        for setting in SETTINGS:
            for given in (setting, list(setting)):
                for machine in range(3):
                    answer = self.call(holder, given, setting[machine])
                    self.assertEqual((answer, type(answer)), (machine, int))

    def test_nobody(self):
        for setting in SETTINGS:
            for given in (setting, list(setting)):
                for size in [0, 1, 4, 6, 9, -1, -2, -3, HUGE, -HUGE] + [k for k in (2, 3, 5, 7, 8) if k not in setting]:
                    self.assertIsNone(self.call(holder, given, size))

    def test_one_machine(self):
        self.assertEqual(holder((7,), 7), 0)
        self.assertIsNone(holder((7,), 8))

    def test_by_name(self):
        self.assertEqual(holder(setting=(3, 2, 8), size=8), 2)
        self.assertEqual(holder(size=3, setting=[3, 2, 8]), 0)
        self.assertIsNone(holder(size=5, setting=(3, 2, 8)))


if __name__ == "__main__":
    unittest.main()
