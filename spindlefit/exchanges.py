"""Exchanges of spindles between two machines, or between a machine and the rack."""

from spindlefit.errors import NotInRack, Unfit
from spindlefit.shops import check_machine, fits, rack


def new_sizes(setting, exchange):
    """The machines that take part, in order, each paired with the size it gets."""
    word, first, second = exchange
    if word == "swap":
        return [(first, setting[second]), (second, setting[first])]
    return [(first, second)]


def all_fit(shop, setting, exchange):
    return all([fits(shop, machine, size) for machine, size in new_sizes(setting, exchange)])


def exchanges(shop, setting):
    many = len(setting)
    swaps = [("swap", one, other) for one in range(many) for other in range(one + 1, many)]
    takes = [("take", machine, size) for machine in range(many) for size in rack(shop, setting)]
    return [exchange for exchange in swaps + takes if all_fit(shop, setting, exchange)]


def check_exchange(shop, setting, exchange):
    """Raises the first error that applies."""
    word, first, second = exchange
    check_machine(shop, first)
    if word == "swap":
        check_machine(shop, second)
    elif second not in rack(shop, setting):
        raise NotInRack(second)
    for machine, size in new_sizes(setting, exchange):
        if not fits(shop, machine, size):
            raise Unfit(machine)


def exchanged(shop, setting, exchange):
    check_exchange(shop, setting, exchange)
    after = list(setting)
    for machine, size in new_sizes(setting, exchange):
        after[machine] = size
    return tuple(after)


def exchanged_all(shop, setting, row):
    after = tuple(setting)
    for exchange in row:
        after = exchanged(shop, after, exchange)
    return after


def reverse_of(setting, exchange):
    """The exchange that takes this one back; setting is the one before it."""
    word, first, second = exchange
    if word == "swap":
        return (word, first, second)
    return (word, first, setting[first])


def back(shop, setting, row):
    found = []
    here = tuple(setting)
    for exchange in row:
        after = exchanged(shop, here, exchange)
        found.append(reverse_of(here, exchange))
        here = after
    return found[::-1]
