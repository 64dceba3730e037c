"""Ranges that are not known, narrowed down by what the machines were seen to hold and by trials."""

from spindlefit.errors import Contradiction


def hulls(settings):
    return tuple([(min(sizes), max(sizes)) for sizes in zip(*settings)])


def tried_sizes(trials, machine, wanted):
    """The sizes of the trials of the machine that have the wanted result."""
    return [size for one, size, found in trials if one == machine and found == wanted]


def is_empty(least, greatest):
    return greatest is not None and least > greatest


def bounds(trials, machine):
    fitting = tried_sizes(trials, machine, "fits")
    # The size 0 stands for what is too small for every range, for ends are numbers from 1.
    least_low = max([0] + tried_sizes(trials, machine, "small")) + 1
    most_highs = [size - 1 for size in tried_sizes(trials, machine, "large")]
    greatest_high = min(most_highs, default=None)
    # A low is never above its high, so each end is a bound for the other one, too.
    greatest_low = min(fitting + most_highs, default=None)
    least_high = max(fitting + [least_low])
    if is_empty(least_low, greatest_low) or is_empty(least_high, greatest_high):
        raise Contradiction(machine)
    return ((least_low, greatest_low), (least_high, greatest_high))


def result(trials, machine, size):
    (least_low, greatest_low), (least_high, greatest_high) = bounds(trials, machine)
    if size < least_low:
        return "small"
    if greatest_high is not None and size > greatest_high:
        return "large"
    if greatest_low is not None and greatest_low <= size <= least_high:
        return "fits"
    return "open"
