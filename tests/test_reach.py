import itertools
import unittest

from common import (
    HUGE, LISTED_SHOP, MIXED_SHOPS, NO_MACHINES, NO_SPINDLES, SETTINGS, SHOP, WIDE, Case, distances, fit,
    matched_beside, pairs_at_the_bounds, settings_along, shops_with_settings,
)
from spindlefit.errors import NoMachine, Unreachable
from spindlefit.reach import can_come, fewest_for, row_for, still

START = (2, 3, 5)


def locks(machines):
    """All ascending tuples of machines."""
    for many in range(machines + 1):
        yield from itertools.combinations(range(machines), many)


class SmallShops(Case):
    def check(self, shop, setting, locked):
        reached = distances(shop, setting, locked)
        machines = range(len(setting))
        held = [sorted({other[machine] for other in reached}) for machine in machines]
        self.returns([machine for machine in machines if len(held[machine]) == 1], still, shop, setting, locked)
        for machine in machines:
            self.returns(held[machine], can_come, shop, setting, machine, locked)
            for size in range(-1, 14):
                if size in held[machine]:
                    steps = min(many for other, many in reached.items() if other[machine] == size)
                    self.returns(steps, fewest_for, shop, setting, machine, size, locked)
                    self.check_row(shop, setting, machine, size, locked, steps)
                else:
                    self.fails(Unreachable(size), fewest_for, shop, setting, machine, size, locked)
                    self.fails(Unreachable(size), row_for, shop, setting, machine, size, locked)
        return max([0] + [reached[other] for other in reached])

    def check_row(self, shop, setting, machine, size, locked, steps):
        row = self.call(row_for, shop, setting, machine, size, locked)
        self.assertEqual({type(part) for part in row} - {tuple}, set())
        self.assertEqual((type(row), len(row)), (list, steps))
        along = settings_along(shop, setting, row)
        self.assertEqual(along[-1][machine], size)
        for other in along:
            self.assertEqual([other[one] for one in locked], [setting[one] for one in locked])

    def test_without_locks(self):
        for shop, found in shops_with_settings("reach", 60):
            self.check(shop, found[len(found) // 2], ())

    def test_with_locks(self):
        for shop, found in shops_with_settings("locks", 14):
            for locked in locks(len(shop[1])):
                self.check(shop, found[len(found) // 3], locked)

    def test_the_shop(self):
        for setting in SETTINGS[::3]:
            for locked in locks(3):
                self.check(SHOP, setting, locked)

    def test_long_ways(self):
        # Each machine takes its own size and the next one, so all must move; then the same in a ring.
        chain = ((1, 2, 3, 4, 5), ((1, 2), (2, 3), (3, 4), (4, 5)))
        self.returns(4, fewest_for, chain, (1, 2, 3, 4), 0, 2)
        ring = ((1, 2, 3, 4), ((1, 2), (2, 3), (3, 4), (1, 4)))
        self.returns(3, fewest_for, ring, (1, 2, 3, 4), 0, 2)
        for shop in (chain, ring):
            for locked in locks(4):
                self.check(shop, (1, 2, 3, 4), locked)

    def test_a_ring_needs_one_fewer_than_a_chain(self):
        # Machine 1 could take 9 from the rack as well as the size 1 of machine 0.
        shop = ((1, 2, 9), ((1, 2), (1, 9)))
        self.returns(1, fewest_for, shop, (1, 2), 0, 2)
        self.returns([("swap", 0, 1)], row_for, shop, (1, 2), 0, 2)
        # Machine 2 can close the ring, but the chain by machine 1 is as short.
        shop = ((1, 2, 3, 9), ((1, 2), (2, 9), (1, 3)))
        self.returns(2, fewest_for, shop, (1, 2, 3), 0, 2)
        self.check(shop, (1, 2, 3), ())


class Edges(Case):
    def test_a_size_that_the_machine_holds(self):
        for setting in SETTINGS:
            for locked in locks(3):
                for machine in range(3):
                    self.returns(0, fewest_for, SHOP, setting, machine, setting[machine], locked)
                    self.returns([], row_for, SHOP, setting, machine, setting[machine], locked)

    def test_locked_may_be_omitted(self):
        self.returns([2, 3], can_come, SHOP, START, 0)
        self.returns([], still, SHOP, START)
        self.returns(1, fewest_for, SHOP, START, 0, 3)
        self.returns([("swap", 0, 1)], row_for, SHOP, START, 0, 3)

    def test_all_are_locked(self):
        self.returns([0, 1, 2], still, SHOP, START, (0, 1, 2))
        for machine in range(3):
            self.returns([START[machine]], can_come, SHOP, START, machine, (0, 1, 2))
            for size in (7, 8):
                self.fails(Unreachable(size), fewest_for, SHOP, START, machine, size, (0, 1, 2))

    def test_a_size_that_a_locked_machine_holds(self):
        self.returns(1, fewest_for, SHOP, START, 1, 5)
        self.fails(Unreachable(5), fewest_for, SHOP, START, 1, 5, (2,))
        self.fails(Unreachable(5), row_for, SHOP, START, 1, 5, (2,))
        self.returns([2, 3, 7], can_come, SHOP, START, 1, (2,))

    def test_unreachable(self):
        for size in NO_SPINDLES:
            for machine in range(3):
                self.fails(Unreachable(size), fewest_for, SHOP, START, machine, size)
                self.fails(Unreachable(size), row_for, SHOP, START, machine, size)
        # It fits machine 0, but machine 1 can hold nothing else.
        shop = ((1, 2, 9), ((1, 2), (2, 2)))
        self.fails(Unreachable(2), fewest_for, shop, (1, 2), 0, 2)
        self.fails(Unreachable(9), row_for, shop, (1, 2), 0, 9)
        self.returns([0, 1], still, shop, (1, 2))

    def test_no_machine_comes_first(self):
        for machine in NO_MACHINES:
            for locked in ((), (0,), (0, 1, 2)):
                self.fails(NoMachine(machine), can_come, SHOP, START, machine, locked)
                for size in (2, 7, 0, -1, 4, HUGE):
                    self.fails(NoMachine(machine), fewest_for, SHOP, START, machine, size, locked)
                    self.fails(NoMachine(machine), row_for, SHOP, START, machine, size, locked)

    def test_by_name_and_with_lists(self):
        given = {"locked": [0, 2], "setting": [2, 3, 5], "shop": LISTED_SHOP}
        self.assertEqual(can_come(machine=1, **given), [3, 7])
        self.assertEqual(still(**given), [0, 2])
        self.assertEqual(fewest_for(size=7, machine=1, **given), 1)
        self.assertEqual(row_for(size=7, machine=1, **given), [("take", 1, 7)])
        for shop in MIXED_SHOPS:
            self.returns([3, 7], can_come, shop, [2, 3, 5], 1, [0, 2])
            self.returns([0, 2], still, shop, (2, 3, 5), [0, 2])
            self.returns(1, fewest_for, shop, [2, 3, 5], 0, 3)
            self.returns(0, fewest_for, shop, [2, 3, 5], 0, 2, [0])


class LargeShops(Case):
    def test_what_can_come(self):
        for shop, one, other in pairs_at_the_bounds("reach", 25) + pairs_at_the_bounds("far", 5, greatest=10 ** 9):
            for locked in ((), (0,), (1, 4, 6), tuple(range(7))):
                kept = {machine: one[machine] for machine in locked}
                held = [
                    [size for size in shop[0] if matched_beside(shop, {**kept, machine: size})]
                    if machine not in locked else [one[machine]] for machine in range(8)
                ]
                self.assertEqual([can_come(shop, one, machine, locked) for machine in range(8)], held)
                self.assertEqual(still(shop, one, locked), [k for k in range(8) if len(held[k]) == 1])
                for machine in range(8):
                    for size in held[machine]:
                        row = row_for(shop, one, machine, size, locked)
                        self.assertEqual(len(row), fewest_for(shop, one, machine, size, locked))
                        along = settings_along(shop, one, row)
                        self.assertEqual(along[-1][machine], size)
                        self.assertEqual([along[-1][k] for k in locked], [one[k] for k in locked])

    def test_one_exchange_where_it_is_possible(self):
        for shop, one, other in pairs_at_the_bounds("single", 25):
            for machine in range(8):
                for size in can_come(shop, one, machine):
                    there = one.index(size) if size in one else None
                    single = there is None or there != machine and fit(shop, there, one[machine])
                    expected = 0 if there == machine else 1 if single else None
                    if expected is None:
                        self.assertGreater(fewest_for(shop, one, machine, size), 1)
                    else:
                        self.assertEqual(fewest_for(shop, one, machine, size), expected)

    def test_all_eight_must_move(self):
        sizes = tuple(range(1, 13))
        chain = (sizes, tuple((k, k + 1) for k in range(1, 9)))
        self.returns(8, fewest_for, chain, sizes[:8], 0, 2)
        self.assertEqual(settings_along(chain, sizes[:8], row_for(chain, sizes[:8], 0, 2))[-1], sizes[1:9])
        self.fails(Unreachable(2), fewest_for, chain, sizes[:8], 0, 2, (7,))
        ring = (sizes[:8], tuple((k, k + 1) for k in range(1, 8)) + ((1, 8),))
        self.returns(7, fewest_for, ring, sizes[:8], 0, 2)
        self.returns([], still, ring, sizes[:8])
        # The last machine can still take the size of machine 4, which closes a ring behind the locked one.
        self.returns([0, 1, 2, 3], still, ring, sizes[:8], (3,))

    def test_wide(self):
        for machine in range(8):
            self.returns(list(range(1, 13)), can_come, WIDE, WIDE[0][:8], machine)
            self.returns(1, fewest_for, WIDE, WIDE[0][:8], machine, 12)


if __name__ == "__main__":
    unittest.main()
