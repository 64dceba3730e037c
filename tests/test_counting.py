import math
import random
import unittest

from common import (
    HUGE, LISTED_SHOP, MIXED_SHOPS, NO_MACHINES, NO_SPINDLES, SETTINGS, SHOP, WIDE, Case, moves, pairs_at_the_bounds,
    settings_along, shops_with_settings, shortest_rows, steps_between,
)
from spindlefit.counting import first_exchanges, number_of, row_at, row_count
from spindlefit.errors import Misfit, NoRow

START, GOAL = (2, 3, 5), (3, 2, 8)
EIGHT = (1, 2, 3, 4, 5, 6, 7, 8)


def pairs_of_small_shops():
    for shop, found in shops_with_settings("counting", 60) + [(SHOP, SETTINGS)]:
        for at in range(3):
            yield shop, found[at % len(found)], found[-1 - (5 * at) % len(found)]


def counted(shop, one, other):
    """How many shortest rows there are, setting by setting; for shops that are too large to list the rows."""
    known = {other: 1}

    def count(here):
        if here not in known:
            steps = steps_between(here, other)
            afters = [after for after in moves(shop, here).values() if steps_between(after, other) < steps]
            known[here] = sum(count(after) for after in afters)
        return known[here]

    return count(one)


def misfit_place(rows, row):
    """As point [10] defines it; None if row is one of the rows."""
    if row in rows:
        return None
    for place in range(len(row)):
        if not any(right[:place + 1] == row[:place + 1] for right in rows):
            return place
    return len(row)


class SmallShops(Case):
    def test_all_shortest_rows(self):
        for shop, one, other in pairs_of_small_shops():
            rows = shortest_rows(shop, one, other)
            self.assertEqual(rows, sorted(rows))
            self.returns(len(rows), row_count, shop, one, other)
            self.returns(sorted({row[0] for row in rows if row}), first_exchanges, shop, one, other)
            for number in range(0, len(rows), max(1, len(rows) // 12)):
                self.returns(rows[number], row_at, shop, one, other, number)
                self.returns(number, number_of, shop, one, other, rows[number])

    def test_every_number_of_each_pair_of_the_shop(self):
        for one in SETTINGS:
            for other in SETTINGS:
                rows = shortest_rows(SHOP, one, other)
                self.assertEqual([row_at(SHOP, one, other, number) for number in range(len(rows))], rows)
                self.assertEqual([number_of(SHOP, one, other, row) for row in rows], list(range(len(rows))))

    def test_no_row(self):
        for shop, one, other in pairs_of_small_shops():
            many = len(shortest_rows(shop, one, other))
            for number in (-1, -2, -many, -many - 1, many, many + 1, 2 * many, HUGE, -HUGE):
                self.fails(NoRow(number), row_at, shop, one, other, number)

    def test_equal_settings(self):
        for setting in SETTINGS:
            for other in (setting, list(setting)):
                self.returns(1, row_count, SHOP, setting, other)
                self.returns([], first_exchanges, SHOP, setting, other)
                self.returns([], row_at, SHOP, setting, other, 0)
                self.returns(0, number_of, SHOP, setting, other, [])
                self.fails(NoRow(1), row_at, SHOP, setting, other, 1)
                self.fails(NoRow(-1), row_at, SHOP, setting, other, -1)
                self.fails(Misfit(0), number_of, SHOP, setting, other, [("swap", 0, 1)])

    def test_by_name_and_with_lists(self):
        given = {"other": [3, 2, 8], "one": [2, 3, 5], "shop": LISTED_SHOP}
        row = [("take", 2, 8), ("swap", 0, 1)]
        self.assertEqual(row_count(**given), 2)
        self.assertEqual(first_exchanges(**given), [("swap", 0, 1), ("take", 2, 8)])
        self.assertEqual(row_at(number=1, **given), row)
        self.assertEqual(number_of(row=[list(part) for part in row], **given), 1)
        for shop in MIXED_SHOPS:
            self.returns(1, number_of, shop, [2, 3, 5], GOAL, (["take", 2, 8], ("swap", 0, 1)))
            self.fails(Misfit(1), number_of, shop, [2, 3, 5], GOAL, (["take", 2, 8], ("swap", 1, 2)))


class Misfits(Case):
    def check(self, shop, one, other, rows, row):
        place = misfit_place(rows, row)
        if place is None:
            self.returns(rows.index(row), number_of, shop, one, other, row)
        else:
            self.fails(Misfit(place), number_of, shop, one, other, row)

    def test_shorter_and_longer_rows(self):
        for shop, one, other in pairs_of_small_shops():
            rows = shortest_rows(shop, one, other)
            row = rows[len(rows) // 2]
            for end in range(len(row)):
                self.fails(Misfit(end), number_of, shop, one, other, row[:end])
            for more in (row[:1], row[-1:], [("swap", 0, 1)], [("take", 0, 4)], [("take", 77, 77)] * 3):
                if more:
                    self.fails(Misfit(len(row)), number_of, shop, one, other, row + more)

    def test_changed_rows(self):
        wrong = [("take", machine, 7) for machine in NO_MACHINES] + [("take", 1, size) for size in NO_SPINDLES]
        wrong += [("swap", one, other) for one in (-HUGE, -1, 0, 1, 2) for other in (0, 1, 2, 3, HUGE) if one < other]
        wrong += [("take", machine, size) for machine in range(3) for size in SHOP[0]]
        for one, other in [(START, GOAL), (START, (3, 5, 7)), ((2, 7, 3), (3, 2, 8))]:
            rows = shortest_rows(SHOP, one, other)
            for row in rows[::3]:
                for at in range(len(row)):
                    for exchange in wrong:
                        self.check(SHOP, one, other, rows, row[:at] + [exchange] + row[at + 1:])
                        self.check(SHOP, one, other, rows, row[:at] + [exchange] + row[at:])

    def test_rows_out_of_order(self):
        for shop, one, other in pairs_of_small_shops():
            rows = shortest_rows(shop, one, other)
            for row in rows[:6]:
                self.check(shop, one, other, rows, row[::-1])
                self.check(shop, one, other, rows, row[1:] + row[:1])

    def test_possible_rows_that_are_not_shortest(self):
        self.fails(Misfit(0), number_of, SHOP, START, GOAL, [("take", 2, 7), ("swap", 0, 1), ("take", 2, 8)])
        self.fails(Misfit(1), number_of, SHOP, START, GOAL, [("swap", 0, 1), ("take", 2, 7), ("take", 2, 8)])
        self.fails(Misfit(1), number_of, SHOP, START, GOAL, [("swap", 0, 1), ("swap", 0, 1)])

    def test_rows_of_sixty(self):
        self.fails(Misfit(0), number_of, SHOP, START, GOAL, [("take", 9, 9)] * 60)
        self.fails(Misfit(2), number_of, SHOP, START, GOAL, [("swap", 0, 1), ("take", 2, 8)] + [("swap", 0, 1)] * 58)


class LargeShops(Case):
    def test_counts_where_all_sizes_fit(self):
        # A ring of n machines has n ** (n - 2) shortest rows, a chain of n has (n + 1) ** (n - 1).
        for other, expected in [
            ((2, 3, 4, 5, 6, 7, 8, 1), 8 ** 6),
            ((8, 1, 2, 3, 4, 5, 6, 7), 8 ** 6),
            ((3, 5, 2, 7, 8, 1, 6, 4), 8 ** 6),
            ((2, 3, 4, 5, 6, 7, 8, 9), 9 ** 7),
            ((12, 1, 2, 3, 4, 5, 6, 7), 9 ** 7),
            ((2, 1, 4, 3, 6, 5, 8, 7), math.factorial(4)),
            ((9, 10, 11, 12, 5, 6, 7, 8), math.factorial(4)),
            ((2, 3, 4, 1, 6, 7, 8, 5), math.comb(6, 3) * 16 * 16),
            ((2, 3, 4, 9, 6, 7, 8, 10), math.comb(8, 4) * 125 * 125),
            ((2, 3, 1, 5, 6, 7, 8, 9), math.comb(7, 2) * 3 * 6 ** 4),
            ((2, 1, 9, 10, 5, 7, 8, 11), math.comb(6, 3) * 16 * math.factorial(3)),
        ]:
            self.returns(expected, row_count, WIDE, EIGHT, other)
            last = self.call(row_at, WIDE, EIGHT, other, expected - 1)
            self.assertEqual(settings_along(WIDE, EIGHT, last)[-1], other)
            self.returns(expected - 1, number_of, WIDE, EIGHT, other, last)
            self.fails(NoRow(expected), row_at, WIDE, EIGHT, other, expected)

    def test_the_first_and_the_last_row(self):
        # By hand: in a chain that goes up, the least row swaps from the left, and the greatest takes from the right.
        other = (2, 3, 4, 5, 6, 7, 8, 9)
        self.returns([("swap", k, k + 1) for k in range(7)] + [("take", 7, 9)], row_at, WIDE, EIGHT, other, 0)
        self.returns([("take", k, k + 2) for k in range(7, -1, -1)], row_at, WIDE, EIGHT, other, 9 ** 7 - 1)

    def test_numbers_ascend_with_rows(self):
        rng = random.Random("numbers")
        for shop, one, other in pairs_at_the_bounds("numbers", 25) + pairs_at_the_bounds("far", 5, greatest=10 ** 9):
            many = row_count(shop, one, other)
            numbers = sorted({0, many - 1} | {rng.randrange(many) for _ in range(6)})
            rows = [row_at(shop, one, other, number) for number in numbers]
            self.assertEqual([number_of(shop, one, other, row) for row in rows], numbers)
            self.assertEqual(sorted(rows), rows)
            self.assertEqual(len({tuple(row) for row in rows}), len(rows))
            for row in rows:
                self.assertEqual(len(row), steps_between(one, other))
                self.assertEqual(settings_along(shop, one, row)[-1], other)

    def test_counts_setting_by_setting(self):
        pairs = pairs_at_the_bounds("six", 30, machines=6, spindles=9, greatest=14)
        some = 0
        for shop, one, other in pairs:
            expected = counted(shop, one, other)
            some += expected > 100
            self.assertEqual(row_count(shop, one, other), expected)
            steps = steps_between(one, other)
            firsts = [exchange for exchange, after in moves(shop, one).items() if steps_between(after, other) < steps]
            self.assertEqual(first_exchanges(shop, one, other), firsts)
        self.assertGreater(some, 5)

    def test_neighbouring_numbers(self):
        shop, one, other = pairs_at_the_bounds("neighbours", 1)[0]
        rows = [row_at(shop, one, other, number) for number in range(min(200, row_count(shop, one, other)))]
        self.assertTrue(all(before < after for before, after in zip(rows, rows[1:])))
        self.assertEqual([number_of(shop, one, other, row) for row in rows], list(range(len(rows))))


if __name__ == "__main__":
    unittest.main()
