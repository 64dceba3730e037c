"""Shops, their settings, the rack, and who holds what."""

from spindlefit.errors import NoMachine


def is_number(thing):
    # Python counts True and False as ints; the document does not count them as numbers.
    return isinstance(thing, int) and not isinstance(thing, bool)


def is_size(thing):
    return is_number(thing) and thing >= 1


def is_pair(thing):
    return isinstance(thing, tuple) and len(thing) == 2


def is_range(thing):
    if not is_pair(thing):
        return False
    low, high = thing
    return is_size(low) and is_size(high) and low <= high


def is_ascending(numbers):
    return all([lesser < greater for lesser, greater in zip(numbers, numbers[1:])])


def are_sizes(thing):
    if not isinstance(thing, tuple) or len(thing) == 0:
        return False
    # The order is asked last: only numbers can be compared.
    return all([is_size(part) for part in thing]) and is_ascending(thing)


def are_ranges(thing):
    if not isinstance(thing, tuple) or len(thing) == 0:
        return False
    return all([is_range(part) for part in thing])


def is_shop(thing):
    if not is_pair(thing):
        return False
    sizes, ranges = thing
    return are_sizes(sizes) and are_ranges(ranges)


def in_tuples(shop):
    """The shop as tuples at every depth, also if lists were given."""
    sizes, ranges = shop
    return (tuple(sizes), tuple([tuple(pair) for pair in ranges]))


def is_setting(shop, thing):
    sizes, ranges = shop
    if not isinstance(thing, tuple) or len(thing) != len(ranges):
        return False
    # Asked before all else: True equals 1, and a list cannot be a member of a set.
    if not all([is_number(part) for part in thing]):
        return False
    if len(set(thing)) != len(thing):
        return False
    return all([part in sizes and fits(shop, machine, part) for machine, part in enumerate(thing)])


def check_machine(shop, machine):
    # A negative index would silently count from the end.
    if not 0 <= machine < len(shop[1]):
        raise NoMachine(machine)


def fits(shop, machine, size):
    check_machine(shop, machine)
    low, high = shop[1][machine]
    return low <= size <= high


def rack(shop, setting):
    return tuple([size for size in shop[0] if size not in setting])


def holder(setting, size):
    for machine, held in enumerate(setting):
        if held == size:
            return machine
    return None
