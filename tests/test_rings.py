import unittest

from common import (
    LISTED_SHOP, MIXED_SHOPS, SETTINGS, SHOP, WIDE, Case, distances, pairs_at_the_bounds, shops_with_settings,
)
from spindlefit.rings import chains, fewest, rings, settled, way

START = (1, 2, 3, 4, 5, 6, 7, 8)
# By hand: what START leads to, with its rings, chains and settled machines.
BY_HAND = [
    (START, [], [], [0, 1, 2, 3, 4, 5, 6, 7]),
    ((2, 3, 4, 5, 6, 7, 8, 1), [[0, 1, 2, 3, 4, 5, 6, 7]], [], []),
    ((8, 1, 2, 3, 4, 5, 6, 7), [[0, 7, 6, 5, 4, 3, 2, 1]], [], []),
    ((2, 1, 4, 3, 6, 5, 8, 7), [[0, 1], [2, 3], [4, 5], [6, 7]], [], []),
    ((2, 3, 4, 5, 6, 7, 8, 9), [], [[0, 1, 2, 3, 4, 5, 6, 7]], []),
    ((12, 1, 2, 3, 4, 5, 6, 7), [], [[7, 6, 5, 4, 3, 2, 1, 0]], []),
    ((9, 2, 3, 4, 5, 6, 7, 8), [], [[0]], [1, 2, 3, 4, 5, 6, 7]),
    ((9, 10, 11, 12, 5, 6, 7, 8), [], [[0], [1], [2], [3]], [4, 5, 6, 7]),
    ((3, 1, 2, 5, 4, 12, 6, 8), [[0, 2, 1], [3, 4]], [[6, 5]], [7]),
    ((9, 1, 6, 4, 10, 5, 8, 7), [[6, 7]], [[1, 0], [2, 5, 4]], [3]),
    ((1, 7, 8, 2, 3, 11, 4, 5), [[1, 6, 3], [2, 7, 4]], [[5]], [0]),
    ((7, 2, 1, 12, 4, 5, 10, 8), [], [[2, 0, 6], [5, 4, 3]], [1, 7]),
]


def walked(one, other):
    """Rings, chains and settled machines by an own walk: each unsettled machine is joined to the next one."""
    groups = [[machine] for machine in range(len(one)) if one[machine] != other[machine]]
    joined = True
    while joined:
        joined = False
        for group in groups:
            for following in groups:
                if group != following and other[group[-1]] == one[following[0]]:
                    group.extend(following)
                    groups.remove(following)
                    joined = True
                    break
            if joined:
                break
    closed = [group for group in groups if other[group[-1]] == one[group[0]]]
    turned = [group[group.index(min(group)):] + group[:group.index(min(group))] for group in closed]
    opened = [group for group in groups if group not in closed]
    return sorted(turned), sorted(opened), [k for k in range(len(one)) if one[k] == other[k]]


class Rings(Case):
    def check(self, shop, one, other, expected):
        for function, answer in zip((rings, chains, settled), expected):
            self.returns(answer, function, shop, one, other)
        together = [machine for row in expected[0] + expected[1] for machine in row] + expected[2]
        self.assertEqual(sorted(together), list(range(len(one))))
        steps = sum(len(ring) - 1 for ring in expected[0]) + sum(len(chain) for chain in expected[1])
        self.returns(steps, fewest, shop, one, other)
        self.returns(sum(max(pair) - min(pair) for pair in zip(one, other)), way, one, other)

    def test_by_hand(self):
        for other, *expected in BY_HAND:
            self.assertEqual(tuple(expected), walked(START, other))
            self.check(WIDE, START, other, expected)

    def test_each_pair_of_the_shop(self):
        for one in SETTINGS:
            for other in SETTINGS:
                self.check(SHOP, one, other, walked(one, other))

    def test_equal_settings(self):
        for setting in SETTINGS:
            self.check(SHOP, setting, setting, ([], [], [0, 1, 2]))

    def test_at_the_bounds(self):
        for shop, one, other in pairs_at_the_bounds("rings", 150):
            self.check(shop, one, other, walked(one, other))

    def test_lists_for_tuples(self):
        for shop in MIXED_SHOPS:
            for one in ((2, 3, 5), [2, 3, 5]):
                for other in ((3, 2, 8), [3, 2, 8]):
                    self.check(shop, one, other, ([[0, 1]], [[2]], []))

    def test_by_name(self):
        given = {"other": [3, 2, 8], "one": (2, 3, 5), "shop": LISTED_SHOP}
        self.assertEqual(rings(**given), [[0, 1]])
        self.assertEqual(chains(**given), [[2]])
        self.assertEqual(settled(**given), [])
        self.assertEqual(fewest(**given), 2)
        self.assertEqual(way(other=[3, 2, 8], one=(2, 3, 5)), 5)

    def test_one_machine(self):
        shop = ((4, 6), ((1, 9),))
        self.check(shop, (4,), (4,), ([], [], [0]))
        self.check(shop, (4,), (6,), ([], [[0]], []))
        self.check(shop, (6,), (4,), ([], [[0]], []))


class Fewest(Case):
    def test_compared_with_a_search_on_small_shops(self):
        for shop, found in shops_with_settings("fewest", 150) + [(SHOP, SETTINGS)]:
            for one in found[::max(1, len(found) // 5)]:
                # Every setting leads to every other one.
                reached = distances(shop, one)
                self.assertEqual(sorted(reached), found)
                for other in found:
                    self.assertEqual(fewest(shop, one, other), reached[other])

    def test_narrow_ranges_need_no_more(self):
        # Five machines that overlap by one size each, all turned in one ring as far as that is possible.
        shop = ((1, 2, 3, 4, 5, 6), ((1, 6), (1, 2), (2, 3), (3, 4), (4, 5)))
        one, other = (5, 1, 2, 3, 4), (1, 2, 3, 4, 5)
        self.assertEqual(distances(shop, one)[other], 4)
        self.returns(4, fewest, shop, one, other)
        self.assertEqual(distances(shop, one)[(6, 2, 3, 4, 5)], 5)
        self.returns(5, fewest, shop, one, (6, 2, 3, 4, 5))


class Way(Case):
    def test_ways(self):
        for one, other, expected in [
            ((4,), (4,), 0), ((4,), (9,), 5), ((9,), (4,), 5), ((1, 2), (2, 1), 2),
            ((1, 10 ** 9), (10 ** 9, 1), 2 * 10 ** 9 - 2), ((5, 1, 9), (1, 9, 5), 16), (START, START[::-1], 32),
        ]:
            self.returns(expected, way, one, other)
            self.returns(expected, way, other, one)


if __name__ == "__main__":
    unittest.main()
