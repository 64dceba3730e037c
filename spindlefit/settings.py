"""Which settings a shop has, and what each machine can hold in them."""

from spindlefit.errors import NoSetting
from spindlefit.shops import check_machine, fits, is_number, is_pair


def is_interval(thing):
    if not is_pair(thing):
        return False
    low, high = thing
    return is_number(low) and is_number(high) and low <= high


def shortage(shop, low, high):
    sizes, ranges = shop
    machines = [pair for pair in ranges if low <= pair[0] and pair[1] <= high]
    return len(machines) - len([size for size in sizes if low <= size <= high])


def overfull_intervals(shop):
    """The overfull intervals from a machine's low to a machine's high, ascending."""
    # Narrowing any other interval to the machines inside keeps them all and adds no size, so these are enough.
    lows = sorted({pair[0] for pair in shop[1]})
    highs = sorted({pair[1] for pair in shop[1]})
    return [(low, high) for low in lows for high in highs if shortage(shop, low, high) > 0]


def shows_overfull(shop, thing):
    return is_interval(thing) and shortage(shop, thing[0], thing[1]) > 0


def most_given(sizes, ranges):
    """A size that fits, or None, for each range: no size twice, and as many sizes as possible."""
    given = [None] * len(ranges)
    for size in sizes:
        waiting = [(high, machine) for machine, (low, high) in enumerate(ranges)
                   if given[machine] is None and low <= size <= high]
        if waiting:
            # Sizes ascend, so of all that could take this one the range that ends first has the least left to it.
            given[min(waiting)[1]] = size
    return given


def all_given(sizes, ranges):
    return None not in most_given(sizes, ranges)


def can_complete(shop, held):
    """Whether the machines that are not in held, a dict of machines and their sizes, can all get another size."""
    sizes, ranges = shop
    taken = list(held.values())
    free = [size for size in sizes if size not in taken]
    left = [pair for machine, pair in enumerate(ranges) if machine not in held]
    return all_given(free, left)


def sizes_beside(shop, machine, held):
    """The sizes of the machine in all settings in which the machines in held have their sizes from there."""
    taken = list(held.values())
    free = [size for size in shop[0] if size not in taken and fits(shop, machine, size)]
    return [size for size in free if can_complete(shop, {**held, machine: size})]


def first_setting(shop):
    held = {}
    for machine in range(len(shop[1])):
        held[machine] = sizes_beside(shop, machine, held)[0]
    return tuple(held.values())


def verdict(shop):
    overfull = overfull_intervals(shop)
    if overfull:
        low, high = overfull[0]
        return ("overfull", low, high)
    return ("setting", first_setting(shop))


def can_hold(shop, machine):
    check_machine(shop, machine)
    return sizes_beside(shop, machine, {})


def can_lie(shop):
    sizes, ranges = shop
    return [size for size in sizes if all_given([other for other in sizes if other != size], ranges)]


def only_one(sizes):
    return sizes[0] if len(sizes) == 1 else None


def certain(shop):
    if not all_given(shop[0], shop[1]):
        raise NoSetting()
    return tuple([only_one(can_hold(shop, machine)) for machine in range(len(shop[1]))])
