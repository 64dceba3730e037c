"""All settings of a shop, counted and numbered without listing them."""

from spindlefit.errors import NoNumber, TooMany
from spindlefit.limits import MOST_LISTED
from spindlefit.settings import sizes_beside


def ways_after(ways, size, begun):
    """The ways after size was given to one of the ranges that wait for a size, or to none.

    ways is a dict: the highs of all ranges that wait, ascending, and in how many ways they are left. begun has the
    highs of those that begin to wait now.
    """
    after = {}
    for highs, many in ways.items():
        waiting = tuple(sorted(list(highs) + begun))
        # Sizes ascend, so a range that ends below this one would never get any.
        if not waiting or waiting[0] >= size:
            lefts = [waiting] + [waiting[:at] + waiting[at + 1:] for at in range(len(waiting))]
            for left in lefts:
                after[left] = after.get(left, 0) + many
    return after


def count_ways(sizes, ranges):
    """In how many ways each range gets a size that fits, no size twice."""
    # Only the high of a range matters once it waits: so the ways are kept by highs, which are far fewer than they.
    ways = {(): 1}
    before = 0
    for size in sizes:
        ways = ways_after(ways, size, [high for low, high in ranges if before < low <= size])
        before = size
    if [low for low, high in ranges if low > before]:
        return 0
    return ways.get((), 0)


def next_sizes(shop, held):
    """The free sizes that fit the machine behind those in held, each with the number of settings that begin so."""
    sizes, ranges = shop
    low, high = ranges[len(held)]
    later = ranges[len(held) + 1:]
    free = [size for size in sizes if size not in held]
    return [(size, count_ways([other for other in free if other != size], later))
            for size in free if low <= size <= high]


def setting_count(shop):
    return count_ways(shop[0], shop[1])


def setting_at(shop, number):
    if not 0 <= number < setting_count(shop):
        raise NoNumber(number)
    held = []
    left = number
    while len(held) < len(shop[1]):
        for size, many in next_sizes(shop, held):
            if left < many:
                break
            left -= many
        held.append(size)
    return tuple(held)


def setting_number(shop, setting):
    number = 0
    for at, held in enumerate(setting):
        number += sum([many for size, many in next_sizes(shop, setting[:at]) if size < held])
    return number


def all_settings(shop):
    many = setting_count(shop)
    if many > MOST_LISTED:
        raise TooMany(many)
    found = [()]
    for machine in range(len(shop[1])):
        # Each of these begins some setting, so there are never more of them than settings.
        found = [held + (size,) for held in found for size in sizes_beside(shop, machine, dict(enumerate(held)))]
    return found
