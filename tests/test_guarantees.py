"""The guarantees of point [1] over several modules at once."""

import math
import random
import unittest

from common import (
    SHOP, WIDE, WITHOUT, all_nearing, distances, large_shops, pairs_at_the_bounds, settings_along, settings_of,
    shops_with_settings, shortage_of, small_shops,
)
from spindlefit.changes import renamed, with_machine, with_range, with_spindle, without_spindle
from spindlefit.counting import first_exchanges, number_of, row_at, row_count
from spindlefit.errors import Locked
from spindlefit.exchanges import back, exchanges
from spindlefit.floor import Floor
from spindlefit.reach import can_come, fewest_for, row_for, still
from spindlefit.rings import chains, fewest, rings, settled, way
from spindlefit.rows import row_to, shows_nearing, shows_row, shows_shortest
from spindlefit.service import most_served, service, shortages, shows_service, shows_shortages
from spindlefit.settings import can_hold, can_lie, certain, shows_overfull, verdict
from spindlefit.sheet import answers
from spindlefit.shops import is_setting, is_shop, rack
from spindlefit.sightings import hulls
from spindlefit.texts import row_in, row_text, setting_in, setting_text, shop_in, shop_text
from spindlefit.totals import all_settings, setting_at, setting_count, setting_number


def pairs_of_settings(seed, many):
    """Shops with two settings each: small ones, and some of eight machines and twelve spindles."""
    found = []
    for shop, settings in shops_with_settings(seed, many):
        found.append((shop, settings[0], settings[-1]))
        found.append((shop, settings[len(settings) // 2], settings[len(settings) // 3]))
    return found + pairs_at_the_bounds(seed, many // 5)


def widened(rng, shop):
    """The shop with some wider ranges, none narrower."""
    for machine, (low, high) in enumerate(shop[1]):
        shop = with_range(shop, machine, max(1, low - rng.randint(0, 2)), high + rng.randint(0, 2))
    return shop


def mapped(shop, change):
    """The shop with every size and every end of a range changed; change turns no order or all of it."""
    sizes, ranges = shop
    return tuple(sorted(map(change, sizes))), tuple(tuple(sorted(map(change, pair))) for pair in ranges)


def row_mapped(row, change):
    return [(word, first, change(second) if word == "take" else second) for word, first, second in row]


class Settings(unittest.TestCase):
    def test_a_setting_exists_exactly_if_no_interval_is_overfull(self):
        for shop in small_shops("exists", 150) + WITHOUT:
            ends = [*shop[0], *(end for pair in shop[1] for end in pair)]
            if max(ends) < 50:
                intervals = [(low, high) for low in range(0, max(ends) + 2) for high in range(low, max(ends) + 2)]
                overfull = [pair for pair in intervals if shortage_of(shop, *pair) > 0]
                self.assertEqual(overfull, [pair for pair in intervals if shows_overfull(shop, pair)])
                self.assertEqual(setting_count(shop) == 0, overfull != [])
                self.assertEqual(shortages(shop) == [], overfull == [])
            self.check_verdict(shop)

    def test_at_the_bounds(self):
        for shop in large_shops("exists", 120):
            self.check_verdict(shop)

    def check_verdict(self, shop):
        answer = verdict(shop)
        many = setting_count(shop)
        missing = len(shop[1]) - most_served(shop)
        self.assertEqual((answer[0] == "setting", missing == 0), (many > 0, many > 0))
        self.assertTrue(shows_service(shop, service(shop)))
        self.assertTrue(shows_shortages(shop, missing, shortages(shop)))
        self.assertFalse(shows_shortages(shop, missing + 1, shortages(shop)))
        if many:
            self.assertEqual(answer, ("setting", setting_at(shop, 0)))
            self.assertTrue(is_setting(shop, answer[1]))
        else:
            self.assertTrue(shows_overfull(shop, answer[1:]))

    def test_the_settings_in_which_a_machine_holds_a_size_add_up(self):
        for shop in small_shops("sums", 80) + large_shops("sums", 12) + [SHOP, WIDE]:
            many = setting_count(shop)
            for machine, (low, high) in enumerate(shop[1]):
                # The machine that takes this size only is served by it in just these settings.
                counts = {size: setting_count(with_range(shop, machine, size, size))
                          for size in shop[0] if low <= size <= high}
                self.assertEqual(sum(counts.values()), many)
                self.assertEqual(can_hold(shop, machine), [size for size in counts if counts[size]])
                if many:
                    only = [size for size in counts if counts[size] == many]
                    self.assertEqual(certain(shop)[machine], only[0] if only else None)

    def test_the_settings_in_which_a_size_lies_in_the_rack_add_up(self):
        for shop in small_shops("racks", 80) + large_shops("racks", 12) + [SHOP, WIDE]:
            if len(shop[0]) > 1:
                counts = {size: setting_count(without_spindle(shop, size)) for size in shop[0]}
                in_rack = max(0, len(shop[0]) - len(shop[1]))
                self.assertEqual(sum(counts.values()), in_rack * setting_count(shop))
                self.assertEqual(can_lie(shop), [size for size in counts if counts[size]])


class Rows(unittest.TestCase):
    def test_every_setting_leads_to_every_other_one(self):
        for shop, found in shops_with_settings("leads", 30):
            one = found[len(found) // 2]
            steps = distances(shop, one)
            self.assertEqual(sorted(steps), all_settings(shop) if len(found) <= 300 else found)
            free = (shop[0], ((1, 10 ** 9),) * len(shop[1]))
            for other in found[::max(1, len(found) // 6)]:
                self.assertEqual({fewest(shop, one, other), fewest(free, one, other)}, {steps[other]})

    def test_rows_at_the_bounds(self):
        for shop, one, other in pairs_at_the_bounds("rows", 40):
            row = row_to(shop, one, other)
            for shows in (shows_row, shows_shortest, shows_nearing):
                self.assertTrue(shows(shop, one, other, row))
            self.assertTrue(all_nearing(settings_along(shop, one, row), other))
            number = number_of(shop, one, other, row)
            self.assertEqual(row_at(shop, one, other, number), row)
            self.assertLess(number, row_count(shop, one, other))
            # Each exchange takes the way of each machine that moves at least one nearer.
            self.assertLessEqual(len(row), way(one, other))

    def test_rows_of_all_first_exchanges_add_up(self):
        for shop, one, other in pairs_of_settings("first", 30):
            if one != other:
                afters = [settings_along(shop, one, [step])[-1] for step in first_exchanges(shop, one, other)]
                self.assertEqual(sum(row_count(shop, after, other) for after in afters), row_count(shop, one, other))

    def test_as_many_rows_back(self):
        for shop, one, other in pairs_of_settings("back", 30):
            self.assertEqual(row_count(shop, one, other), row_count(shop, other, one))
            self.assertEqual(fewest(shop, one, other), fewest(shop, other, one))

    def test_what_can_come_without_locks_is_what_can_be_held(self):
        for shop, one, other in pairs_of_settings("come", 30):
            for machine in range(len(one)):
                self.assertEqual(can_come(shop, one, machine), can_hold(shop, machine))
                self.assertLessEqual(fewest_for(shop, one, machine, other[machine]), fewest(shop, one, other))
            self.assertEqual(still(shop, one), [k for k, size in enumerate(certain(shop)) if size is not None])


class WiderRanges(unittest.TestCase):
    def test_no_setting_is_lost(self):
        rng = random.Random("wider")
        for shop in small_shops("wider", 60):
            wide = widened(rng, shop)
            found = settings_of(shop)
            self.assertLessEqual(len(found), setting_count(wide))
            self.assertEqual([setting for setting in found if not is_setting(wide, setting)], [])
            self.assertLessEqual(most_served(shop), most_served(wide))
            for machine in range(len(shop[1])):
                self.assertLessEqual(set(can_hold(shop, machine)), set(can_hold(wide, machine)))
            self.assertLessEqual(set(can_lie(shop)), set(can_lie(wide)))

    def test_no_row_is_lost(self):
        rng = random.Random("wider rows")
        for shop, one, other in pairs_of_settings("wider", 40):
            wide = widened(rng, shop)
            many = row_count(shop, one, other)
            self.assertLessEqual(many, row_count(wide, one, other))
            self.assertEqual(fewest(shop, one, other), fewest(wide, one, other))
            numbers = [number_of(wide, one, other, row_at(shop, one, other, number))
                       for number in range(0, many, max(1, many // 5))]
            self.assertEqual(numbers, sorted(set(numbers)))
            self.assertTrue(shows_nearing(wide, one, other, row_to(shop, one, other)))
            self.assertTrue(set(exchanges(shop, one)) <= set(exchanges(wide, one)))

    def test_the_hulls_are_the_narrowest_ranges(self):
        for shop, one, other in pairs_of_settings("narrow", 40):
            narrow = (shop[0], hulls([one, other]))
            self.assertTrue(is_setting(narrow, one) and is_setting(narrow, other))
            self.assertTrue(shows_nearing(narrow, one, other, row_to(shop, one, other)))
            self.assertLessEqual(row_count(narrow, one, other), row_count(shop, one, other))
            self.assertLessEqual(setting_count(narrow), setting_count(shop))


class OtherSizes(unittest.TestCase):
    def check_shop(self, shop, change, turned):
        """change maps the sizes; turned says whether it turns their order."""
        new = mapped(shop, change)
        self.assertTrue(is_shop(new))
        many = setting_count(shop)
        self.assertEqual(setting_count(new), many)
        self.assertEqual(most_served(new), most_served(shop))
        self.assertEqual(can_lie(new), sorted(map(change, can_lie(shop))))
        for machine in range(len(shop[1])):
            self.assertEqual(can_hold(new, machine), sorted(map(change, can_hold(shop, machine))))
        for number in range(0, many, max(1, many // 4)):
            setting = setting_at(shop, number)
            image = tuple(map(change, setting))
            self.assertEqual(setting_number(new, image), many - 1 - number if turned else number)

    def check_rows(self, shop, one, other, change, turned):
        new, first, second = mapped(shop, change), tuple(map(change, one)), tuple(map(change, other))
        for function in (rings, chains, settled, fewest, row_count):
            self.assertEqual(function(new, first, second), function(shop, one, other))
        self.assertEqual(rack(new, first), tuple(sorted(map(change, rack(shop, one)))))
        self.assertEqual(exchanges(new, first), sorted(row_mapped(exchanges(shop, one), change)))
        self.assertTrue(shows_nearing(new, first, second, row_mapped(row_to(shop, one, other), change)))
        many = row_count(shop, one, other)
        for number in sorted({0, many // 2, many - 1}):
            image = row_mapped(row_at(shop, one, other, number), change)
            if turned:
                self.assertTrue(shows_shortest(new, first, second, image))
            else:
                self.assertEqual(number_of(new, first, second, image), number)
        for machine in range(0, len(one), 2):
            for locked in ((), (0,), (1,)):
                if locked != (1,) or len(one) > 1:
                    come = can_come(shop, one, machine, locked)
                    self.assertEqual(can_come(new, first, machine, locked), sorted(map(change, come)))
                    for size in come[:3]:
                        self.assertEqual(fewest_for(new, first, machine, change(size), locked),
                                         fewest_for(shop, one, machine, size, locked))

    def test_mirrored_shops(self):
        for shop in small_shops("mirror", 60) + large_shops("mirror", 15) + WITHOUT:
            self.check_shop(shop, lambda size: 10 ** 9 + 1 - size, True)

    def test_mirrored_rows(self):
        for shop, one, other in pairs_of_settings("mirror", 30):
            self.check_rows(shop, one, other, lambda size: 10 ** 9 + 1 - size, True)
            self.assertEqual(way(one, other), way([50 - size for size in one], [50 - size for size in other]))

    def test_other_sizes_of_the_same_order(self):
        for change in (lambda size: size + 7, lambda size: 3 * size, lambda size: size * size * 1000):
            for shop in small_shops("order", 40) + large_shops("order", 8):
                self.check_shop(shop, change, False)
            for shop, one, other in pairs_of_settings("order", 15):
                self.check_rows(shop, one, other, change, False)


class MachinesInAnotherOrder(unittest.TestCase):
    def orders(self, machines):
        rng = random.Random("orders")
        return [list(range(machines))[::-1], rng.sample(range(machines), machines)]

    def test_shops(self):
        for shop in small_shops("renamed", 60) + large_shops("renamed", 15):
            for order in self.orders(len(shop[1])):
                new = renamed(shop, order)
                many = setting_count(shop)
                self.assertEqual(setting_count(new), many)
                self.assertEqual(most_served(new), most_served(shop))
                self.assertEqual(can_lie(new), can_lie(shop))
                self.assertEqual([can_hold(new, k) for k in range(len(order))], [can_hold(shop, k) for k in order])
                if 0 < many <= 300:
                    moved = sorted(tuple(setting[k] for k in order) for setting in all_settings(shop))
                    self.assertEqual(all_settings(new), moved)
                    self.assertEqual(certain(new), tuple(certain(shop)[k] for k in order))

    def test_rows(self):
        for shop, one, other in pairs_of_settings("renamed", 40):
            for order in self.orders(len(one)):
                new, first, second = renamed(shop, order), [one[k] for k in order], [other[k] for k in order]
                place = {machine: at for at, machine in enumerate(order)}
                self.assertEqual(row_count(new, first, second), row_count(shop, one, other))
                self.assertEqual(fewest(new, first, second), fewest(shop, one, other))
                self.assertEqual(way(first, second), way(one, other))
                self.assertEqual(settled(new, first, second), sorted(place[k] for k in settled(shop, one, other)))
                self.assertEqual(chains(new, first, second),
                                 sorted([place[k] for k in chain] for chain in chains(shop, one, other)))
                moved = [self.moved(step, place) for step in row_to(shop, one, other)]
                self.assertTrue(shows_nearing(new, tuple(first), tuple(second), moved))
                steps = [self.moved(step, place) for step in exchanges(shop, one)]
                self.assertEqual(exchanges(new, first), sorted(steps))
                self.assertEqual(still(new, first), sorted(place[k] for k in still(shop, one)))
                for machine in order:
                    self.assertEqual(can_come(new, first, place[machine]), can_come(shop, one, machine))

    def moved(self, step, place):
        word, first, second = step
        if word == "take":
            return word, place[first], second
        return word, min(place[first], place[second]), max(place[first], place[second])


class SideBySide(unittest.TestCase):
    def both(self, shop, other):
        """One shop of two whose sizes and ranges do not touch: those of other come behind."""
        self.shift = max(*shop[0], *(high for low, high in shop[1]))
        sizes, ranges = mapped(other, self.moved)
        return shop[0] + sizes, shop[1] + ranges

    def moved(self, size):
        return size + self.shift

    def test_shops(self):
        left, right = small_shops("left", 60), small_shops("right", 60)
        for shop, other in zip(left, right):
            both = self.both(shop, other)
            self.assertEqual(setting_count(both), setting_count(shop) * setting_count(other))
            self.assertEqual(most_served(both), most_served(shop) + most_served(other))
            if setting_count(both):
                self.assertEqual(verdict(both)[1], verdict(shop)[1] + tuple(map(self.moved, verdict(other)[1])))
                self.assertEqual(can_lie(both), can_lie(shop) + list(map(self.moved, can_lie(other))))
                for machine in range(len(shop[1])):
                    self.assertEqual(can_hold(both, machine), can_hold(shop, machine))
                for machine in range(len(other[1])):
                    held = list(map(self.moved, can_hold(other, machine)))
                    self.assertEqual(can_hold(both, machine + len(shop[1])), held)

    def test_rows(self):
        left, right = shops_with_settings("left", 40), shops_with_settings("right", 40)
        for (shop, found), (other, more) in zip(left, right):
            both = self.both(shop, other)
            one = found[0] + tuple(map(self.moved, more[-1]))
            goal = found[-1] + tuple(map(self.moved, more[len(more) // 2]))
            steps = [fewest(shop, found[0], found[-1]), fewest(other, more[-1], more[len(more) // 2])]
            self.assertEqual(fewest(both, one, goal), sum(steps))
            counts = [row_count(shop, found[0], found[-1]), row_count(other, more[-1], more[len(more) // 2])]
            self.assertEqual(row_count(both, one, goal), math.comb(sum(steps), steps[0]) * math.prod(counts))
            self.assertEqual([can_come(both, one, k) for k in range(len(found[0]))],
                             [can_come(shop, found[0], k) for k in range(len(found[0]))])
            for size in can_come(shop, found[0], 0):
                self.assertEqual(fewest_for(both, one, 0, size), fewest_for(shop, found[0], 0, size))
                self.assertEqual(settings_along(both, one, row_for(both, one, 0, size))[-1][0], size)


class MoreSpindles(unittest.TestCase):
    def test_one_that_fits_nowhere(self):
        for shop in small_shops("useless", 40) + large_shops("useless", 10):
            useless = max(*shop[0], *(high for low, high in shop[1])) + 1
            more = with_spindle(shop, useless)
            self.assertEqual(setting_count(more), setting_count(shop))
            self.assertEqual(most_served(more), most_served(shop))
            if setting_count(shop):
                self.assertEqual(verdict(more), verdict(shop))
                self.assertEqual(can_lie(more), can_lie(shop) + [useless])
                self.assertEqual(certain(more), certain(shop))
            else:
                self.assertTrue(shows_overfull(shop, verdict(more)[1:]))

    def test_one_that_may_fit(self):
        for shop in small_shops("more", 40):
            for size in [size for size in range(1, 12) if size not in shop[0]]:
                more = with_spindle(shop, size)
                # The new one lies in the rack, or one machine that it fits holds it.
                held = sum(setting_count(with_range(more, machine, size, size))
                           for machine, (low, high) in enumerate(shop[1]) if low <= size <= high)
                self.assertEqual(setting_count(more), setting_count(shop) + held)
                self.assertGreaterEqual(most_served(more), most_served(shop))

    def test_rows_stay_the_same(self):
        for shop, one, other in pairs_of_settings("rack", 30):
            for size in [size for size in (1, 4, 6, 9, 10 ** 9) if size not in shop[0]]:
                more = with_spindle(shop, size)
                # A shortest row never takes what nobody wants.
                for function in (rings, chains, settled, fewest, row_count, first_exchanges):
                    self.assertEqual(function(more, one, other), function(shop, one, other))
                self.assertTrue(shows_nearing(more, one, other, row_to(shop, one, other)))
                for machine in range(len(one)):
                    self.assertLessEqual(set(can_come(shop, one, machine)), set(can_come(more, one, machine)))
                    for wanted in can_come(shop, one, machine)[:2]:
                        self.assertLessEqual(fewest_for(more, one, machine, wanted),
                                             fewest_for(shop, one, machine, wanted))

    def test_one_more_machine(self):
        for shop in small_shops("machine", 60):
            more = with_machine(shop, 1, 99)
            in_rack = len(shop[0]) - len(shop[1])
            self.assertEqual(setting_count(more), setting_count(shop) * max(0, in_rack))


class Floors(unittest.TestCase):
    def test_a_row_leads_a_floor_to_every_setting(self):
        for shop, one, other in pairs_of_settings("floors", 40):
            floor = Floor(shop, one)
            row = row_to(shop, one, other)
            self.assertEqual((floor.fewest_to(other), floor.possible()), (len(row), exchanges(shop, one)))
            returning = back(shop, one, row)
            floor.run(row)
            self.assertEqual((floor.setting(), floor.fewest_to(one)), (other, len(row)))
            self.assertTrue(floor == Floor(shop, other))
            floor.run(returning)
            self.assertEqual((floor.setting(), floor.operations()), (one, 2))
            self.assertTrue(floor.as_of(1) == Floor(shop, other) and floor == floor.as_of(0))

    def test_locked_machines_take_no_part(self):
        for shop, one, other in pairs_of_settings("locked", 40):
            floor = Floor(shop, one)
            locked = tuple(range(1, len(one), 2))
            for machine in locked:
                floor.lock(machine)
            for size in can_come(shop, one, 0, locked):
                twin = floor.twin()
                twin.run(row_for(shop, one, 0, size, locked))
                self.assertEqual(twin.setting()[0], size)
                self.assertEqual(twin.fewest_to(one), fewest_for(shop, one, 0, size, locked))
                self.assertEqual([twin.setting()[k] for k in locked], [one[k] for k in locked])
            moving = [k for k in locked if k not in settled(shop, one, other)]
            if moving:
                with self.assertRaises(Locked) as caught:
                    floor.fewest_to(other)
                self.assertEqual(caught.exception.machine, moving[0])
            else:
                self.assertEqual(floor.fewest_to(other), fewest(shop, one, other))

    def test_changes_of_a_floor_are_those_of_its_shop(self):
        for shop, one, other in pairs_of_settings("changed", 20):
            floor = Floor(shop, one)
            floor.widen(0, one[0], 10 ** 9)
            changed = with_range(shop, 0, one[0], 10 ** 9)
            self.assertEqual(floor.shop(), changed)
            if len(shop[0]) < 12:
                floor.deliver(10 ** 9)
                changed = with_spindle(changed, 10 ** 9)
                self.assertEqual((floor.shop(), floor.rack()[-1]), (changed, 10 ** 9))
            if len(one) < 8 and floor.rack():
                size = floor.rack()[0]
                self.assertEqual(floor.install(size, size, size), len(one))
                self.assertEqual(floor.shop(), with_machine(changed, size, size))
            self.assertTrue(is_shop(floor.shop()) and is_setting(floor.shop(), floor.setting()))
            self.assertGreater(setting_count(floor.shop()), 0)

    def test_a_sheet_says_what_the_functions_return(self):
        for shop, one, other in pairs_of_settings("sheets", 30):
            row = row_to(shop, one, other)
            lines = ["shop " + shop_text(shop), "set " + setting_text(one), "to " + setting_text(other),
                     "rows " + setting_text(other), "possible", "run " + row_text(row), "setting", "rack", "hold 0"]
            self.assertEqual(answers("\n".join(lines)), [
                str(fewest(shop, one, other)), str(row_count(shop, one, other)), row_text(exchanges(shop, one)), "done",
                setting_text(other), setting_text(rack(shop, other)) or "-", setting_text(can_hold(shop, 0)),
            ])
            self.assertEqual((shop_in(shop_text(shop)), row_in(row_text(row))), (shop, row))
            self.assertEqual(setting_in(shop, setting_text(other)), other)


if __name__ == "__main__":
    unittest.main()
