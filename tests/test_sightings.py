import itertools
import random
import unittest

from common import HUGE, SETTINGS, SHOP, Case, pairs_at_the_bounds, settings_along, shops_with_settings
from spindlefit.errors import Contradiction
from spindlefit.rows import row_to
from spindlefit.sightings import bounds, hulls, result

RESULTS = ("fits", "small", "large")
MACHINES = (0, 1, 7, -1, -2, 10 ** 9, HUGE, -HUGE)


def right(low, high, size):
    return "small" if size < low else "large" if size > high else "fits"


def agreeing(trials, machine, most):
    """All ranges with ends up to most that agree with the trials of the machine."""
    own = [(size, found) for one, size, found in trials if one == machine]
    return [
        (low, high) for low in range(1, most + 1) for high in range(low, most + 1)
        if all(right(low, high, size) == found for size, found in own)
    ]


def bounds_by_search(trials, machine):
    """Compares two searches: what grows with the bound of the search has no greatest number."""
    most = max([size for _, size, _ in trials] + [1]) + 2
    near, far = agreeing(trials, machine, most), agreeing(trials, machine, most + 1)
    if not far:
        return None
    pairs = []
    for at in (0, 1):
        ends = [pair[at] for pair in near]
        grows = max(pair[at] for pair in far) > max(ends)
        pairs.append((min(ends), None if grows else max(ends)))
    return tuple(pairs)


def result_by_search(trials, machine, size):
    most = max([other for _, other, _ in trials] + [size]) + 2
    found = {right(low, high, size) for low, high in agreeing(trials, machine, most)}
    return found.pop() if len(found) == 1 else "open" if found else None


class Hulls(Case):
    def test_one_setting(self):
        self.returns(((4, 4),), hulls, [(4,)])
        self.returns(((2, 2), (3, 3), (5, 5)), hulls, [(2, 3, 5)])
        self.returns(((10 ** 9, 10 ** 9), (1, 1)), hulls, [(10 ** 9, 1)])

    def test_many_settings(self):
        self.returns(((2, 3), (2, 3), (5, 8)), hulls, [(2, 3, 5), (3, 2, 8)])
        self.returns(((2, 3), (2, 7), (3, 8)), hulls, SETTINGS)
        self.returns(((1, 9),), hulls, [(4,), (9,), (1,), (4,), (5,)])
        self.returns(((1, 2), (1, 2)), hulls, [(1, 2), (2, 1), (1, 2)])

    def test_lists_and_tuples(self):
        for given in ([[2, 3, 5], (3, 2, 8)], ((2, 3, 5), [3, 2, 8]), [(2, 3, 5), [3, 2, 8]]):
            self.returns(((2, 3), (2, 3), (5, 8)), hulls, given)
        self.assertEqual(hulls(settings=[[2, 3, 5], [3, 2, 8]]), ((2, 3), (2, 3), (5, 8)))

    def test_at_the_bounds(self):
        rng = random.Random("hulls")
        for many in (1, 2, 39, 40, 45):
            settings = [tuple(rng.sample(range(1, 10 ** 9), 8)) for _ in range(many)]
            columns = [[setting[machine] for setting in settings] for machine in range(8)]
            self.returns(tuple((min(column), max(column)) for column in columns), hulls, settings)

    def test_nearing_rows_are_possible_in_the_hulls(self):
        cases = [(shop, (found[0], found[-1], found[len(found) // 2])) for shop, found in
                 shops_with_settings("hulls", 30)] + [(shop, pair) for shop, *pair in pairs_at_the_bounds("hulls", 20)]
        for shop, seen in cases:
            narrow = (shop[0], hulls(seen))
            for one, other in itertools.product(seen, repeat=2):
                row = row_to(shop, one, other)
                self.assertEqual(settings_along(narrow, one, row)[-1], other)


class Bounds(Case):
    def check(self, trials, machine, sizes):
        expected = bounds_by_search(trials, machine)
        if expected is None:
            self.fails(Contradiction(machine), bounds, trials, machine)
        else:
            self.returns(expected, bounds, trials, machine)
        for size in sizes:
            answer = result_by_search(trials, machine, size)
            if expected is None:
                self.assertIsNone(answer)
                self.fails(Contradiction(machine), result, trials, machine, size)
            else:
                self.returns(answer, result, trials, machine, size)
        return expected

    def test_all_lists_of_up_to_two_trials(self):
        single = [(0, size, found) for size in (1, 2, 3, 4) for found in RESULTS]
        for many in (0, 1, 2):
            for trials in itertools.combinations_with_replacement(single, many):
                self.check(list(trials), 0, range(1, 6))

    def test_many_small_lists(self):
        rng = random.Random("bounds")
        seen = {True: 0, False: 0}
        for _ in range(600):
            # Most of them come from a true range of each machine, so that many trials can agree.
            ranges = [sorted((rng.randint(1, 7), rng.randint(1, 7))) for _ in range(3)]
            trials = []
            for _ in range(rng.randint(0, 7)):
                machine, size = rng.randrange(3), rng.randint(1, 7)
                honest = rng.random() < 0.8
                trials.append((machine, size, right(*ranges[machine], size) if honest else rng.choice(RESULTS)))
            expected = self.check(trials, rng.randrange(3), (1, rng.randint(2, 6), 7, 8, 9))
            seen[expected is None] += 1
        self.assertGreater(min(seen.values()), 30)

    def test_no_trial_of_the_machine(self):
        others = [(5, 3, "fits"), (5, 3, "small"), (-5, 4, "large")]
        for trials in ([], others):
            for machine in MACHINES:
                self.returns(((1, None), (1, None)), bounds, trials, machine)
                for size in (1, 2, 10 ** 9, HUGE):
                    self.returns("open", result, trials, machine, size)

    def test_any_machine(self):
        for machine in MACHINES:
            trials = [(machine, 4, "fits"), (machine + 1, 2, "fits"), (machine - 1, 4, "small"),
                      (machine, 9, "large"), (machine, 2, "small")]
            self.returns(((3, 4), (4, 8)), bounds, trials, machine)
            self.returns("fits", result, trials, machine, 4)
            self.returns("small", result, trials, machine, 2)
            self.returns("open", result, trials, machine, 3)
            self.returns("open", result, trials, machine, 8)
            self.returns("large", result, trials, machine, 9)
            against = trials + [(machine, 4, "large")]
            self.fails(Contradiction(machine), bounds, against, machine)
            self.fails(Contradiction(machine), result, against, machine, 5)
            # The others have nothing against their own trials.
            self.returns(((1, 2), (2, None)), bounds, against, machine + 1)

    def test_no_greatest_number(self):
        self.returns(((1, 4), (4, None)), bounds, [(0, 4, "fits")], 0)
        self.returns(((5, None), (5, None)), bounds, [(0, 4, "small")], 0)
        self.returns(((1, 3), (1, 3)), bounds, [(0, 4, "large")], 0)
        self.returns(((5, 6), (5, 6)), bounds, [(0, 4, "small"), (0, 7, "large")], 0)
        self.returns(((6, 6), (6, 6)), bounds, [(0, 5, "small"), (0, 7, "large")], 0)
        # Nothing was seen to fit, and yet there is but one range.
        self.returns("fits", result, [(0, 5, "small"), (0, 7, "large")], 0, 6)

    def test_contradictions(self):
        for trials in (
            [(0, 1, "large")], [(0, 5, "small"), (0, 6, "large")], [(0, 5, "fits"), (0, 5, "small")],
            [(0, 5, "fits"), (0, 5, "large")], [(0, 5, "fits"), (0, 6, "small")], [(0, 5, "fits"), (0, 4, "large")],
            [(0, 5, "small"), (0, 5, "large")], [(0, 9, "small"), (0, 2, "large")],
            [(0, 2, "fits"), (0, 4, "large"), (0, 6, "fits")], [(0, 2, "fits"), (0, 4, "small"), (0, 6, "fits")],
        ):
            for order in (trials, trials[::-1]):
                self.check(order, 0, (1, 5, 9))
                self.fails(Contradiction(0), bounds, order, 0)
                self.fails(Contradiction(0), result, order, 0, 5)
                self.returns(((1, None), (1, None)), bounds, order, 1)

    def test_the_four_results(self):
        trials = [(0, 4, "fits"), (0, 6, "fits"), (0, 2, "small"), (0, 9, "large")]
        expected = ["small", "small", "open", "fits", "fits", "fits", "open", "open", "large", "large"]
        for size, answer in zip(range(1, 11), expected):
            self.returns(answer, result, trials, 0, size)
        self.returns("large", result, trials, 0, HUGE)
        self.returns("open", result, trials[:3], 0, HUGE)

    def test_at_the_bounds(self):
        rng = random.Random("trials")
        for many in (60, 65):
            ranges = [sorted((rng.randint(1, 10 ** 9), rng.randint(1, 10 ** 9))) for _ in range(8)]
            trials = []
            for _ in range(many):
                machine, size = rng.randrange(8), rng.randint(1, 10 ** 9)
                trials.append((machine, size, right(*ranges[machine], size)))
            for machine, (low, high) in enumerate(ranges):
                (least_low, greatest_low), (least_high, greatest_high) = self.call(bounds, trials, machine)
                self.assertLessEqual(least_low, low)
                self.assertLessEqual(least_high, high)
                self.assertTrue(greatest_low is None or low <= greatest_low)
                self.assertTrue(greatest_high is None or high <= greatest_high)
                for one, size, found in trials:
                    if one == machine:
                        self.returns(found, result, trials, machine, size)
        most = 10 ** 9
        self.returns(((most, most), (most, None)), bounds, [(0, most, "fits"), (0, most - 1, "small")], 0)

    def test_by_name_and_with_lists(self):
        trials = [[0, 4, "fits"], (0, 9, "large"), [1, 5, "small"]]
        self.assertEqual(bounds(machine=0, trials=trials), ((1, 4), (4, 8)))
        self.assertEqual(result(size=9, machine=0, trials=tuple(trials)), "large")
        self.returns(((1, 4), (4, 8)), bounds, trials, 0)

    def test_what_the_shop_shows(self):
        trials = [(machine, size, right(low, high, size)) for machine, (low, high) in enumerate(SHOP[1])
                  for size in SHOP[0]]
        self.returns(((1, 2), (3, 4)), bounds, trials, 0)
        self.returns(((1, 2), (7, 7)), bounds, trials, 1)
        self.returns(((3, 3), (8, None)), bounds, trials, 2)


if __name__ == "__main__":
    unittest.main()
