import unittest

from common import (
    HUGE, LISTED_SHOP, MIXED_SHOPS, NO_MACHINES, NO_SPINDLES, SETTINGS, SHOP, WIDE, WRONG_PARTS, Case, all_nearing,
    distances, moves, near, nested, pairs_at_the_bounds, settings_along, shops_with_settings, shortest_rows,
    steps_between,
)
from spindlefit.errors import Locked
from spindlefit.rows import row_to, shows_nearing, shows_row, shows_shortest

START, GOAL = (2, 3, 5), (3, 2, 8)
SHORTEST = [("swap", 0, 1), ("take", 2, 8)]
# It leads there too, and each of its exchanges is nearing, but it is not a shortest one.
LONGER = [("take", 2, 7), ("swap", 0, 1), ("take", 2, 8)]
SHOWS = (shows_row, shows_shortest, shows_nearing)


def by_the_words(shop, one, other, thing):
    """What the three functions must answer, by exact kinds and without the package."""
    if type(thing) is not list:
        return False, False, False
    for part in thing:
        if type(part) is not tuple or [type(value) for value in part] != [str, int, int]:
            return False, False, False
        if part[0] not in ("swap", "take"):
            return False, False, False
    along = settings_along(shop, one, thing)
    if along is None or along[-1] != other:
        return False, False, False
    return True, len(thing) == distances(shop, one)[other], all_nearing(along, other)


class RowTo(Case):
    def check(self, shop, one, other, steps):
        row = self.call(row_to, shop, one, other)
        self.assertIs(type(row), list)
        self.assertEqual({type(part) for part in row} - {tuple}, set())
        along = settings_along(shop, one, row)
        self.assertIsNotNone(along)
        self.assertEqual((along[-1], len(row)), (other, steps))
        self.assertTrue(all_nearing(along, other))
        for function in SHOWS:
            self.yes(function, shop, one, other, row)
        return row

    def test_each_pair_of_the_shop(self):
        for one in SETTINGS:
            steps = distances(SHOP, one)
            for other in SETTINGS:
                self.check(SHOP, one, other, steps[other])

    def test_small_shops(self):
        for shop, found in shops_with_settings("row_to", 80):
            one = found[len(found) // 2]
            steps = distances(shop, one)
            for other in found[::max(1, len(found) // 10)]:
                self.check(shop, one, other, steps[other])

    def test_at_the_bounds(self):
        for shop, one, other in pairs_at_the_bounds("row_to", 120) + pairs_at_the_bounds("far", 20, greatest=10 ** 9):
            self.check(shop, one, other, steps_between(one, other))

    def test_nearest_ranges(self):
        # Just the two sizes of each machine and what lies between fit, and each ring goes all the way round.
        for many in range(2, 9):
            sizes = tuple(range(1, 13))
            one = sizes[:many]
            for other in (one[1:] + one[:1], one[-1:] + one[:-1], one[::-1]):
                ranges = tuple((min(pair), max(pair)) for pair in zip(one, other))
                moving = sum(held != wanted for held, wanted in zip(one, other))
                closed = 1 if other != one[::-1] else many // 2
                self.check((sizes, ranges), one, other, moving - closed)

    def test_equal_settings(self):
        for setting in SETTINGS:
            for given in (setting, list(setting)):
                self.returns([], row_to, SHOP, given, setting)
                self.returns([], row_to, SHOP, given, setting, (0, 1, 2))

    def test_locked_machines_take_no_part(self):
        for shop, one, other in pairs_at_the_bounds("locked", 60):
            settled = tuple(machine for machine in range(8) if one[machine] == other[machine])
            for locked in (settled, settled[:1], settled[1:]):
                row = self.call(row_to, shop, one, other, locked)
                along = settings_along(shop, one, row)
                self.assertEqual(along[-1], other)
                self.assertTrue(all_nearing(along, other))
                for setting in along:
                    self.assertEqual([setting[machine] for machine in locked], [one[machine] for machine in locked])

    def test_the_least_locked_machine_that_is_not_settled(self):
        for locked, machine in [((0,), 0), ((0, 2), 0), ((1,), 1), ((1, 2), 1), ((2,), 2), ((0, 1, 2), 0)]:
            for shop in [SHOP] + MIXED_SHOPS:
                self.fails(Locked(machine), row_to, shop, START, GOAL, locked)
                self.fails(Locked(machine), row_to, shop, list(START), list(GOAL), list(locked))
        self.fails(Locked(2), row_to, SHOP, START, (2, 3, 8), (0, 1, 2))
        self.fails(Locked(1), row_to, SHOP, START, (2, 7, 8), (0, 1, 2))
        self.fails(Locked(7), row_to, WIDE, WIDE[0][:8], WIDE[0][:7] + (12,), tuple(range(8)))
        self.returns([("take", 2, 8)], row_to, SHOP, START, (2, 3, 8), (0, 1))
        self.returns([("take", 2, 8)], row_to, SHOP, START, (2, 3, 8), ())

    def test_by_name_and_with_lists(self):
        named = {"locked": [], "other": [3, 2, 8], "one": [2, 3, 5], "shop": LISTED_SHOP}
        self.assertEqual(row_to(**named), row_to(SHOP, START, GOAL))
        for shop in MIXED_SHOPS:
            self.assertEqual(self.call(row_to, shop, [2, 3, 5], (3, 2, 8)), row_to(SHOP, START, GOAL))


class Shows(Case):
    def check(self, shop, one, other, thing):
        for function, expected in zip(SHOWS, by_the_words(shop, one, other, thing)):
            self.returns(expected, function, shop, one, other, thing)

    def test_rows_that_lead_there(self):
        # row, shortest, nearing
        for thing, expected in [
            (SHORTEST, (True, True, True)),
            (SHORTEST[::-1], (True, True, True)),
            (LONGER, (True, False, True)),
            ([("take", 2, 8), ("take", 2, 5)] + SHORTEST, (True, False, False)),
            ([("take", 1, 7), ("take", 0, 3), ("take", 1, 2), ("take", 2, 8)], (True, False, False)),
            (SHORTEST[:1], (False, False, False)),
            ([], (False, False, False)),
            (SHORTEST + [("swap", 0, 1)], (False, False, False)),
            (SHORTEST + [("swap", 0, 1)] * 2, (True, False, False)),
        ]:
            self.assertEqual(by_the_words(SHOP, START, GOAL, thing), expected)
            for shop in [SHOP] + MIXED_SHOPS:
                for function, answer in zip(SHOWS, expected):
                    self.returns(answer, function, shop, START, GOAL, thing)
                    self.returns(answer, function, shop, list(START), list(GOAL), thing)

    def test_shortest_rows_that_go_beyond(self):
        # From 1 to 2, 2 to 3, 3 to 1, with a swap that brings the first to 3.
        shop, one, other = ((1, 2, 3), ((1, 3),) * 3), (1, 2, 3), (2, 3, 1)
        for thing, nearing in [
            ([("swap", 0, 1), ("swap", 1, 2)], False), ([("swap", 0, 2), ("swap", 0, 1)], False),
            ([("swap", 1, 2), ("swap", 0, 2)], True),
        ]:
            self.assertEqual(by_the_words(shop, one, other, thing), (True, True, nearing))
            self.check(shop, one, other, thing)

    def test_a_settled_machine_cannot_come_nearer(self):
        thing = [("take", 1, 7), ("take", 1, 3)]
        self.assertEqual(by_the_words(SHOP, START, START, thing), (True, False, False))
        self.check(SHOP, START, START, thing)
        for function in SHOWS:
            self.yes(function, SHOP, START, START, [])

    def test_all_short_rows(self):
        for shop, one, other in [(SHOP, START, GOAL), (SHOP, START, (3, 5, 7)), (SHOP, (2, 7, 3), (3, 2, 5))]:
            rows = [[]]
            for _ in range(3):
                ends = [settings_along(shop, one, row)[-1] for row in rows]
                rows += [row + [exchange] for row, end in zip(rows, ends) for exchange in moves(shop, end)]
            unlike = {tuple(row) for row in rows}
            self.assertGreater(len(unlike), 100)
            for row in sorted(unlike):
                for function, expected in zip(SHOWS, by_the_words(shop, one, other, list(row))):
                    self.assertIs(function(shop, one, other, list(row)), expected)

    def test_small_shops(self):
        for shop, found in shops_with_settings("shows", 40):
            one, other = found[0], found[-1]
            for row in shortest_rows(shop, one, other)[:20]:
                self.check(shop, one, other, row)
                self.check(shop, one, other, row[:-1])
                self.check(shop, one, other, row[1:])
                self.check(shop, one, other, row + row[-1:])

    def test_one_that_is_not_possible(self):
        wrong = [("take", machine, 7) for machine in NO_MACHINES] + [("take", 0, size) for size in NO_SPINDLES]
        wrong += [("swap", 0, 2), ("take", 1, 8), ("take", 0, 8), ("take", 2, 2), ("take", 2, 5), ("swap", 0, 3)]
        wrong += [("swap", -1, 1), ("swap", -3, -2), ("swap", 1, HUGE), ("swap", -HUGE, HUGE)]
        for exchange in wrong:
            # After ("take", 2, 7) and back again the rest leads there as before.
            loop = [("take", 2, 7), ("take", 2, 5)]
            for thing in ([exchange] + SHORTEST, loop + [exchange] + SHORTEST, loop + SHORTEST + [exchange]):
                if settings_along(SHOP, START, thing) is None:
                    for function in SHOWS:
                        self.no(function, SHOP, START, GOAL, thing)

    def test_machines_in_the_wrong_order(self):
        for thing in [[("swap", 1, 0), ("take", 2, 8)], [("swap", 1, 1)] + SHORTEST, [("take", 8, 2), ("swap", 0, 1)]]:
            for function in SHOWS:
                self.no(function, SHOP, START, GOAL, thing)

    def test_close_to_a_row(self):
        first, second = SHORTEST
        wrong = [
            (first, second), ((first, second),), [[first, second]], [list(first), second], [first, list(second)],
            ("swap", 0, 1), first + second, list(first), [("swap", False, True), second], [("swap", False, 1), second],
            [("swap", 0, True), second], [first, ("take", 2, "8")], [first, ("take", "2", 8)], [first, ("take", 2)],
            [first, ("take", 2, 8, None)], [first, ("take", 2, 8, 8)], [first, ("Take", 2, 8)],
            [first, ("take ", 2, 8)], [first, ("", 2, 8)], [first, (None, 2, 8)], [first, (True, 2, 8)],
            [first, (("take",), 2, 8)],
            [first, ("move", 2, 8)], [first, (2, 8)], [first, (2, "take", 8)], [first, second, None],
            [None, first, second],
            [first, second, []], [first, second, ()], [first, second, ""], [first, None], [None], [[]], [()], "0x1 2<8",
            [first, ("take", None, 8)], [first, ("take", 2, None)], [first, ("take", (2,), (8,))], ["swap", "take"],
            [first, ("take", [2], 8)], nested(SHORTEST, 5), [nested(first, 5), second], [first, "take"], ["swp"],
        ]
        for thing in wrong + WRONG_PARTS:
            for function in SHOWS:
                self.no(function, SHOP, START, GOAL, thing)

    def test_near_a_row(self):
        for row in (SHORTEST, LONGER):
            for thing in near(row):
                for function, expected in zip(SHOWS, by_the_words(SHOP, START, GOAL, thing)):
                    self.assertIs(function(SHOP, START, GOAL, thing), expected)

    def test_true_in_place_of_a_machine_or_a_size(self):
        shop = ((1, 2, 5), ((1, 2), (1, 5)))
        self.check(shop, (2, 5), (1, 5), [("take", 0, 1)])
        for thing in ([("take", 0, True)], [("take", False, 1)], [("take", False, True)]):
            for function in SHOWS:
                self.no(function, shop, (2, 5), (1, 5), thing)

    def test_empty_values_for_equal_settings(self):
        for thing in ((), "", None, False, 0, [[]], [()], [None]):
            for function in SHOWS:
                self.no(function, SHOP, START, START, thing)

    def test_very_long_rows(self):
        thing = [("swap", 0, 1), ("swap", 0, 1)] * 5000 + SHORTEST
        self.assertEqual([function(SHOP, START, GOAL, thing) for function in SHOWS], [True, False, False])
        self.assertEqual([function(SHOP, START, GOAL, thing[:-1]) for function in SHOWS], [False, False, False])
        self.assertEqual([function(SHOP, START, GOAL, thing + [None]) for function in SHOWS], [False, False, False])

    def test_by_name(self):
        for function in SHOWS:
            self.assertIs(function(thing=SHORTEST, other=[3, 2, 8], one=[2, 3, 5], shop=LISTED_SHOP), True)


if __name__ == "__main__":
    unittest.main()
