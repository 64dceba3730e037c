"""Shops with one thing changed."""

from spindlefit.errors import Duplicate, LastSpindle, NoSpindle
from spindlefit.shops import check_machine, in_tuples


def with_range(shop, machine, low, high):
    check_machine(shop, machine)
    sizes, ranges = in_tuples(shop)
    return (sizes, ranges[:machine] + ((low, high),) + ranges[machine + 1:])


def with_spindle(shop, size):
    sizes, ranges = in_tuples(shop)
    if size in sizes:
        raise Duplicate(size)
    return (tuple(sorted(sizes + (size,))), ranges)


def without_spindle(shop, size):
    sizes, ranges = in_tuples(shop)
    if size not in sizes:
        raise NoSpindle(size)
    if len(sizes) == 1:
        raise LastSpindle()
    return (tuple([other for other in sizes if other != size]), ranges)


def with_machine(shop, low, high):
    sizes, ranges = in_tuples(shop)
    return (sizes, ranges + ((low, high),))


def renamed(shop, order):
    sizes, ranges = in_tuples(shop)
    return (sizes, tuple([ranges[machine] for machine in order]))
