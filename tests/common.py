"""What several tests need: shops, values that are close to right ones, and searches that do not use the package."""

import copy
import inspect
import itertools
import random
import unittest

SHOP = ((2, 3, 5, 7, 8), ((1, 4), (2, 7), (3, 9)))
LISTED_SHOP = [[2, 3, 5, 7, 8], [[1, 4], [2, 7], [3, 9]]]
MIXED_SHOPS = [
    LISTED_SHOP,
    ([2, 3, 5, 7, 8], ((1, 4), (2, 7), (3, 9))),
    ((2, 3, 5, 7, 8), [(1, 4), (2, 7), (3, 9)]),
    [(2, 3, 5, 7, 8), ([1, 4], (2, 7), [3, 9])],
]
# All settings of SHOP, by hand: machine 0 takes 2, 3; machine 1 takes 2, 3, 5, 7; machine 2 takes 3, 5, 7, 8.
SETTINGS = [
    (2, 3, 5), (2, 3, 7), (2, 3, 8), (2, 5, 3), (2, 5, 7), (2, 5, 8), (2, 7, 3), (2, 7, 5), (2, 7, 8),
    (3, 2, 5), (3, 2, 7), (3, 2, 8), (3, 5, 7), (3, 5, 8), (3, 7, 5), (3, 7, 8),
]
# As large as a shop may be, and every size fits everywhere.
WIDE = (tuple(range(1, 13)), ((1, 12),) * 8)
# Python refuses to write out ints of more than 4300 digits; the package must take them all the same.
HUGE = 10 ** 5000
# Shops without settings: more machines than spindles, a range without a spindle, three machines for two spindles.
WITHOUT = [
    ((4, 5), ((1, 9), (1, 9), (1, 9))), ((4,), ((4, 4), (4, 4))), ((4,), ((5, 9),)), ((4,), ((1, 3),)),
    ((2, 3, 9), ((1, 4), (2, 4), (2, 3))), ((1, 2, 8, 9), ((1, 9), (3, 7), (1, 9))),
    ((1, 2, 3, 4, 5), ((1, 5), (2, 3), (1, 5), (2, 3), (2, 3))), ((10 ** 9,), ((1, 10 ** 9 - 1),)),
    (tuple(range(1, 13)), ((1, 12),) * 5 + ((6, 7),) * 3), (tuple(range(1, 8)), ((1, 9),) * 8),
]
# Shops with few settings.
TIGHT = [
    ((4,), ((1, 9),)), ((2, 3), ((1, 4), (1, 4))), ((1, 2, 3), ((1, 3), (1, 2), (1, 1))), ((5, 6), ((6, 6), (1, 9))),
    ((10 ** 9 - 1, 10 ** 9), ((10 ** 9, 10 ** 9), (1, 10 ** 9))),
]
NO_MACHINES = (-1, -2, -3, -4, 3, 4, 8, 10 ** 9, -10 ** 30, HUGE, -HUGE)
NO_SPINDLES = (0, -1, -2, 1, 4, 6, 9, 10 ** 9, HUGE, -HUGE)


def nested(value, levels):
    for _ in range(levels):
        value = (value,)
    return value


WRONG_PARTS = [
    None, True, False, 0, -1, -HUGE, 4, HUGE, "", "5", "25", (), [], (2,), [2], (2, 3), [2, 3], (2, 3, 5),
    ((1, 4),), [[1, 4]], (None, None), ("1", "4"), (True, True), ((), ()), nested(2, 6), [[[[[2]]]]],
]


def places(value, here=()):
    """The path of value and of every value inside it."""
    found = [here]
    if isinstance(value, (list, tuple)):
        for at, part in enumerate(value):
            found.extend(places(part, here + (at,)))
    return found


def part_at(value, path):
    for at in path:
        value = value[at]
    return value


def replaced(value, path, new):
    """value with new at path; every sequence keeps its own kind."""
    if not path:
        return new
    parts = list(value)
    parts[path[0]] = replaced(parts[path[0]], path[1:], new)
    return type(value)(parts)


def near(value):
    """Values with one part exchanged: a wrong part, the other kind of sequence, one part more or fewer."""
    for path in places(value):
        part = part_at(value, path)
        for new in WRONG_PARTS:
            yield replaced(value, path, new)
        if isinstance(part, int):
            yield replaced(value, path, part + 1)
            yield replaced(value, path, part - 1)
        if isinstance(part, (list, tuple)):
            yield replaced(value, path, list(part) if isinstance(part, tuple) else tuple(part))
            yield replaced(value, path, part + type(part)([None]))
            yield replaced(value, path, part + part)
            yield replaced(value, path, part[:-1])
            yield replaced(value, path, part[1:])
            yield replaced(value, path, part[::-1])


def kinds_of(value):
    """value with the kind of each part beside it, so that True and 1, or a list and a tuple, differ."""
    if isinstance(value, (list, tuple)):
        return type(value), [kinds_of(part) for part in value]
    return type(value), value


def remade(value, kind):
    """value with every list and tuple in it, at any depth, made one of that kind."""
    if isinstance(value, (list, tuple)):
        return kind(remade(part, kind) for part in value)
    return value


def spoil(value):
    """Changes a returned value wherever that is possible."""
    if isinstance(value, (list, tuple)):
        for part in value:
            spoil(part)
    if isinstance(value, list):
        value.reverse()
        value.append("spoilt")


def outcome(function, *given, **named):
    """What a call returns, or raises with its values, by exact kinds; a returned list is spoilt behind it."""
    try:
        value = function(*given, **named)
    except Exception as error:
        return "raised", type(error), vars(error)
    seen = kinds_of(copy.deepcopy(value))
    spoil(value)
    return "returned", seen


class Case(unittest.TestCase):
    def call(self, function, *given):
        """The result of a call, after point [2] was checked for it.

        The call is made several times, by position and by name, with lists for tuples and tuples for lists; what it
        returns is changed each time. It must have the same outcome each time and leave what is given as it is.
        """
        names = list(inspect.signature(function).parameters)[:len(given)]
        before = kinds_of(copy.deepcopy(given))
        first = outcome(function, *given)
        for kind in (None, list, tuple):
            parts = [part if kind is None or name == "thing" else remade(part, kind)
                     for name, part in zip(names, given)]
            kept = kinds_of(copy.deepcopy(parts))
            self.assertTrue(outcome(function, *parts) == first, (function, kind))
            self.assertTrue(outcome(function, **dict(zip(names[::-1], parts[::-1]))) == first, (function, kind))
            self.assertTrue(kinds_of(parts) == kept, (function, kind))
        self.assertTrue(kinds_of(given) == before, function)
        return function(*given)

    def returns(self, expected, function, *given):
        """The call returns just this, by exact kinds."""
        self.assertEqual(kinds_of(self.call(function, *given)), kinds_of(expected))

    def yes(self, function, *given):
        self.assertIs(self.call(function, *given), True)

    def no(self, function, *given):
        self.assertIs(self.call(function, *given), False)

    def fails(self, error, function, *given):
        """The call raises an error of just this class with just these values."""
        with self.assertRaises(type(error)) as caught:
            self.call(function, *given)
        self.assertIs(type(caught.exception), type(error))
        self.assertTrue(vars(caught.exception) == vars(error), type(error))


def fit(shop, machine, size):
    low, high = shop[1][machine]
    return size in range(low, high + 1)


def settings_of(shop):
    """All settings, ascending, by a search through all tuples."""
    sizes, ranges = shop
    return [
        sizes_held for sizes_held in itertools.permutations(sizes, len(ranges))
        if all(fit(shop, machine, size) for machine, size in enumerate(sizes_held))
    ]


def moved(shop, setting, exchange):
    """The setting after an exchange that may be any triple of this form; None if it is not possible."""
    word, first, second = exchange
    after = list(setting)
    if word == "swap":
        if not 0 <= first < second < len(setting):
            return None
        after[first], after[second] = setting[second], setting[first]
    else:
        if not 0 <= first < len(setting) or second in setting or second not in shop[0]:
            return None
        after[first] = second
    return tuple(after) if all(fit(shop, machine, size) for machine, size in enumerate(after)) else None


def moves(shop, setting, locked=()):
    """Each exchange that is possible without a locked machine, with the setting after it, ascending."""
    machines = [machine for machine in range(len(setting)) if machine not in locked]
    tried = [("swap", one, other) for one in machines for other in machines]
    tried += [("take", machine, size) for machine in machines for size in shop[0]]
    found = {exchange: moved(shop, setting, exchange) for exchange in sorted(tried)}
    return {exchange: after for exchange, after in found.items() if after is not None}


def distances(shop, setting, locked=()):
    """How many exchanges lead from a setting to each one that it leads to, layer by layer."""
    found = {setting: 0}
    layer = [setting]
    while layer:
        reached = []
        for here in layer:
            for after in moves(shop, here, locked).values():
                if after not in found:
                    found[after] = found[here] + 1
                    reached.append(after)
        layer = reached
    return found


def random_shop(rng, machines, spindles, greatest, widest):
    sizes = tuple(sorted(rng.sample(range(1, greatest + 1), spindles)))
    lows = [rng.randint(1, greatest) for _ in range(machines)]
    return sizes, tuple((low, low + rng.randint(0, widest)) for low in lows)


def small_shops(seed, many):
    """Shops of up to four machines and six spindles, with narrow and wide ranges, with and without settings."""
    rng = random.Random(seed)
    return [
        random_shop(rng, rng.randint(1, 4), rng.randint(1, 6), rng.randint(6, 9), rng.choice((1, 3, 5, 9)))
        for _ in range(many)
    ]


def shops_with_settings(seed, many):
    """Small shops that have two settings or more, each with the list of them."""
    pairs = [(shop, settings_of(shop)) for shop in small_shops(seed, many)]
    return [(shop, found) for shop, found in pairs if len(found) > 1]


def large_shops(seed, many):
    """Shops of eight machines and twelve spindles, with and without settings."""
    rng = random.Random(seed)
    return [random_shop(rng, 8, 12, rng.choice((12, 20, 40)), rng.choice((2, 5, 9, 40))) for _ in range(many)]


def pairs_at_the_bounds(seed, many, machines=8, spindles=12, greatest=40):
    """Shops of eight machines and twelve spindles, each with two of its settings."""
    rng = random.Random(seed)
    found = []
    while len(found) < many:
        sizes = tuple(sorted(rng.sample(range(1, greatest + 1), spindles)))
        one, other = tuple(rng.sample(sizes, machines)), tuple(rng.sample(sizes, machines))
        if rng.random() < 0.5:
            # A goal near by gives narrow ranges.
            other = nearby(rng, sizes, one)
        slack = rng.choice((0, 0, 1, 5, greatest))
        ranges = tuple(
            (max(1, min(pair) - rng.randint(0, slack)), min(greatest, max(pair) + rng.randint(0, slack)))
            for pair in zip(one, other)
        )
        found.append(((sizes, ranges), one, other))
    return found


def nearby(rng, sizes, setting):
    """The setting after some machines took a size next to their own, wherever it is held."""
    after = list(setting)
    for _ in range(rng.randint(1, 12)):
        place = rng.randrange(len(sizes) - 1)
        exchange = {sizes[place]: sizes[place + 1], sizes[place + 1]: sizes[place]}
        after = [exchange.get(size, size) for size in after]
    return tuple(after)


def shortage_of(shop, low, high):
    """By counting, as point [6] says."""
    inside = [pair for pair in shop[1] if low <= pair[0] <= high and low <= pair[1] <= high]
    return len(inside) - len([size for size in shop[0] if low <= size <= high])


def most_matched(sizes, ranges):
    """How many ranges can get a size of their own at most, by augmenting paths."""
    taken = {}

    def place(machine, tried):
        for size in sizes:
            if ranges[machine][0] <= size <= ranges[machine][1] and size not in tried:
                tried.add(size)
                if size not in taken or place(taken[size], tried):
                    taken[size] = machine
                    return True
        return False

    return sum(place(machine, set()) for machine in range(len(ranges)))


def matched_beside(shop, held):
    """Whether some setting has the sizes of held, a dict of machines."""
    sizes, ranges = shop
    if len(set(held.values())) < len(held) or not all(fit(shop, *pair) for pair in held.items()):
        return False
    left = [pair for machine, pair in enumerate(ranges) if machine not in held]
    return most_matched([size for size in sizes if size not in held.values()], left) == len(left)


def steps_between(one, other):
    """The fewest exchanges if all sizes fitted everywhere: one for each machine that moves, less one for each ring."""
    moving = [machine for machine in range(len(one)) if one[machine] != other[machine]]
    closed = set()
    for machine in moving:
        row, here = [], machine
        while here is not None and here not in row:
            row.append(here)
            here = one.index(other[here]) if other[here] in one else None
        if here is not None:
            closed.add(min(row))
    return len(moving) - len(closed)


def shortest_rows(shop, one, other):
    """All shortest rows from one to other, ascending, by a search."""
    left = distances(shop, other)

    def rows_from(here):
        if here == other:
            return [[]]
        return [
            [exchange] + rest for exchange, after in moves(shop, here).items() if left[after] < left[here]
            for rest in rows_from(after)
        ]

    return rows_from(one)


def settings_along(shop, one, row):
    """The settings from the first to the last of a row that is possible; None if it is not."""
    found = [one]
    for exchange in row:
        after = moved(shop, found[-1], exchange)
        if after is None:
            return None
        found.append(after)
    return found


def all_nearing(along, other):
    """Whether in each step every machine whose size changes gets one from that to the one it wants."""
    for before, after in zip(along, along[1:]):
        for held, new, wanted in zip(before, after, other):
            between = range(min(held, wanted), max(held, wanted) + 1)
            if held != new and new not in between:
                return False
    return True
