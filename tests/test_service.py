import itertools
import unittest

from common import (
    HUGE, MIXED_SHOPS, SHOP, TIGHT, WITHOUT, WRONG_PARTS, Case, fit, large_shops, most_matched, near, nested,
    shortage_of, small_shops,
)
from spindlefit.service import most_served, service, shortages, shows_service, shows_shortages

POOR = ((3, 4, 9), ((3, 4), (2, 4), (4, 5), (9, 9)))
LISTED_POOR = [[3, 4, 9], [[3, 4], [2, 4], [4, 5], [9, 9]]]
# Two machines too many below and one above; between them a spindle that nobody can take.
TWICE = ((2, 5, 8), ((1, 3), (2, 3), (1, 2), (7, 8), (8, 9)))
# By hand: the shortage of (5, 5) is -1, and that of an interval without machines and sizes is 0.
TWICE_LISTS = [
    ([], 0), ([(1, 3)], 2), ([(7, 9)], 1), ([(1, 3), (7, 9)], 3), ([(-HUGE, 3), (7, HUGE)], 3), ([(1, 9)], 2),
    ([(5, 5)], -1), ([(1, 3), (5, 5), (7, 9)], 2), ([(1, 3), (4, 4), (7, 9)], 3), ([(1, 3), (4, 6), (7, 9)], 2),
    ([(1, 2)], 0), ([(1, 1), (2, 3)], 0), ([(-5, -3), (0, 0)], 0), ([(2, 2), (5, 5), (8, 8)], -3), ([(1, HUGE)], 2),
]


def services_of(shop):
    """All services, by a search through all tuples."""
    sizes, ranges = shop
    parts = [[None] + [size for size in sizes if fit(shop, machine, size)] for machine in range(len(ranges))]
    for thing in itertools.product(*parts):
        held = [size for size in thing if size is not None]
        if len(set(held)) == len(held):
            yield thing


def served_in(thing):
    return len(thing) - thing.count(None)


class Service(Case):
    def check(self, shop, most):
        self.returns(most, most_served, shop)
        answer = self.call(service, shop)
        self.assertIs(type(answer), tuple)
        self.assertEqual(served_in(answer), most)
        self.assertEqual({type(part) for part in answer} - {int, type(None)}, set())
        self.yes(shows_service, shop, answer)

    def test_small_shops(self):
        seen = {True: 0, False: 0}
        for shop in small_shops("service", 150):
            found = list(services_of(shop))
            most = max(served_in(thing) for thing in found)
            self.check(shop, most)
            self.assertIn(service(shop), found)
            seen[most < len(shop[1])] += 1
            for thing in found:
                self.assertIs(shows_service(shop, thing), served_in(thing) == most)
        self.assertGreater(min(seen.values()), 30)

    def test_no_other_tuples(self):
        for shop in small_shops("tuples", 40) + [POOR]:
            found = set(services_of(shop))
            most = max(served_in(thing) for thing in found)
            parts = [None] + list(shop[0])
            for thing in itertools.product(parts, repeat=len(shop[1])):
                self.assertIs(shows_service(shop, thing), thing in found and served_in(thing) == most)

    def test_eight_machines_and_twelve_spindles(self):
        for shop in large_shops("service", 60) + WITHOUT + TIGHT:
            self.check(shop, most_matched(*shop))

    def test_nobody_is_served(self):
        shop = ((5,), ((1, 4), (6, 9)))
        self.check(shop, 0)
        self.returns((None, None), service, shop)
        self.no(shows_service, shop, (5, None))
        self.no(shows_service, shop, (None,))

    def test_too_few_served(self):
        for thing in [(3, None, None, 9), (None, None, None, None), (3, 4, None, None), (None, 3, None, 9)]:
            self.no(shows_service, POOR, thing)
        for thing in [(3, 4, None, 9), (4, 3, None, 9), (None, 3, 4, 9), (3, None, 4, 9)]:
            self.yes(shows_service, POOR, thing)
            self.yes(shows_service, LISTED_POOR, thing)

    def test_close_to_a_service(self):
        wrong = [
            [3, None, 4, 9], (3, 3, 4, 9), (3, 4, 4, 9), (3, None, 3, 9), (3, None, 5, 9), (3, None, 4, 4), (3, 4, 9),
            (3, None, 4, 9, None), (3, None, 4, 9, 9), (3, False, 4, 9), (3, 0, 4, 9), (3, "", 4, 9), (3, (), 4, 9),
            (3, None, (4,), 9), (3, None, [4], 9), ("3", None, 4, 9), ((3, None, 4, 9),), (3, None, 4, HUGE),
            (3, None, 4, -9), (2, None, 4, 9), (9, None, 4, 3), (None, 2, 4, 9), (3, None, 4, None, 9),
        ]
        for thing in wrong + WRONG_PARTS + ["3 4 9", "3", nested((3, None, 4, 9), 7), nested(None, 8)]:
            self.no(shows_service, POOR, thing)
        right = {thing for thing in services_of(POOR) if served_in(thing) == 3}
        for thing in near((3, None, 4, 9)):
            plain = type(thing) is tuple and {type(part) for part in thing} <= {int, type(None)}
            self.assertIs(shows_service(POOR, thing), plain and thing in right)

    def test_true_and_false_are_no_numbers(self):
        shop = ((1, 2), ((1, 2), (1, 2)))
        self.yes(shows_service, shop, (1, 2))
        self.no(shows_service, shop, (True, 2))
        self.no(shows_service, shop, (2, True))
        self.no(shows_service, ((2,), ((1, 1),)), (False,))
        self.yes(shows_service, ((2,), ((1, 1),)), (None,))

    def test_by_name(self):
        self.assertEqual(most_served(shop=LISTED_POOR), 3)
        self.assertEqual(service(shop=LISTED_POOR), service(POOR))
        self.assertIs(shows_service(thing=(3, None, 4, 9), shop=LISTED_POOR), True)

    def test_lists_for_tuples(self):
        for shop in MIXED_SHOPS:
            self.check(shop, 3)
            self.assertEqual(service(shop), service(SHOP))


class Shortages(Case):
    def test_they_add_up_to_the_machines_that_are_not_served(self):
        some = 0
        shops = small_shops("shortages", 300) + large_shops("shortages", 80)
        for shop in shops + WITHOUT + TIGHT + [SHOP, POOR, TWICE]:
            missing = len(shop[1]) - most_matched(*shop)
            self.assertEqual(service(shop).count(None), missing)
            answer = self.call(shortages, shop)
            self.assertIs(type(answer), list)
            self.assertEqual({(type(part), len(part), type(part[0]), type(part[1])) for part in answer}
                             - {(tuple, 2, int, int)}, set())
            self.assertTrue(all(low <= high for low, high in answer))
            self.assertTrue(all(before[1] < after[0] for before, after in zip(answer, answer[1:])))
            self.assertEqual(sum(shortage_of(shop, low, high) for low, high in answer), missing)
            self.yes(shows_shortages, shop, missing, answer)
            self.no(shows_shortages, shop, missing + 1, answer)
            some += len(answer) > 1
        self.assertGreater(some, 5)

    def test_by_name_and_with_lists(self):
        self.assertEqual(shortages(shop=LISTED_POOR), shortages(POOR))
        self.assertIs(shows_shortages(thing=[(2, 5)], many=1, shop=LISTED_POOR), True)
        for shop in MIXED_SHOPS:
            self.assertEqual(sum(shortage_of(SHOP, low, high) for low, high in shortages(shop)), 0)


class ShowsShortages(Case):
    def test_sums_by_hand(self):
        for thing, total in TWICE_LISTS:
            for many in (-HUGE, -10, total - 1, total):
                self.yes(shows_shortages, TWICE, many, thing)
            for many in (total + 1, total + 5, HUGE):
                self.no(shows_shortages, TWICE, many, thing)

    def test_all_pairs_of_intervals(self):
        ends = range(0, 10)
        pairs = [(low, high) for low in ends for high in ends]
        for one, other in itertools.product(pairs, repeat=2):
            apart = one[0] <= one[1] < other[0] <= other[1]
            total = shortage_of(TWICE, *one) + shortage_of(TWICE, *other)
            for many in (-9, 1, 3):
                self.assertIs(shows_shortages(TWICE, many, [one, other]), apart and total >= many)

    def test_intervals_that_touch_or_overlap_or_descend(self):
        wrong = [
            [(1, 3), (3, 9)], [(1, 3), (2, 9)], [(7, 9), (1, 3)], [(1, 3), (1, 3)], [(1, 9), (2, 3)], [(3, 1)],
            [(1, 3), (7, 9), (9, 10)], [(1, 3), (9, 7)], [(1, 3), (5, 4), (7, 9)], [(0, -1)],
        ]
        for thing in wrong:
            for many in (-HUGE, -1, 0, 1, HUGE):
                self.no(shows_shortages, TWICE, many, thing)

    def test_close_to_a_list_of_intervals(self):
        wrong = [
            ((1, 3), (7, 9)), ((1, 3),), (), [[1, 3], [7, 9]], [(1, 3), [7, 9]], [[1, 3], (7, 9)], [1, 3], [(1, 3, 3)],
            [(1,)], [()], [(1, 3), None], [None], [(True, 3)], [(1, True)], [(False, 3), (7, 9)], [("1", "3")], ["13"],
            [((1, 3), (7, 9))], [[(1, 3), (7, 9)]], [(None, 3)], [(1, None)], [(1, (3,))], (1, 3), "[(1, 3)]",
            None, nested([(1, 3)], 6), [nested((1, 3), 5)], [(1, 3), (7, 9), ()], True, False, 0, 1, "", HUGE,
        ]
        for thing in wrong:
            for many in (-HUGE, -1, 0, 1):
                self.no(shows_shortages, TWICE, many, thing)

    def test_near_the_list(self):
        for thing in near([(1, 3), (7, 9)]):
            for many in (-1, 3):
                self.assertIs(shows_shortages(TWICE, many, thing), self.by_the_words(TWICE, many, thing))

    def by_the_words(self, shop, many, thing):
        if type(thing) is not list or not all(type(part) is tuple and len(part) == 2 for part in thing):
            return False
        ends = [end for part in thing for end in part]
        if not all(type(end) is int for end in ends):
            return False
        if not all(low <= high for low, high in thing) or sorted(set(thing)) != thing:
            return False
        if not all(before[1] < after[0] for before, after in zip(thing, thing[1:])):
            return False
        return sum(shortage_of(shop, low, high) for low, high in thing) >= many

    def test_a_very_long_list(self):
        thing = [(low, low) for low in range(-20000, 1)] + [(1, 3), (7, 9)]
        self.assertIs(shows_shortages(TWICE, 3, thing), True)
        self.assertIs(shows_shortages(TWICE, 4, thing), False)
        self.assertIs(shows_shortages(TWICE, 3, thing[::-1]), False)

    def test_nothing_shows_more_than_there_is(self):
        for shop in small_shops("more", 25):
            missing = len(shop[1]) - most_matched(*shop)
            ends = range(1, 11)
            for first, second, third, fourth in itertools.combinations(ends, 4):
                self.assertIs(shows_shortages(shop, missing + 1, [(first, second), (third, fourth)]), False)


if __name__ == "__main__":
    unittest.main()
