"""How many machines can be served, and intervals that show why no more can."""

from spindlefit.settings import is_interval, most_given, overfull_intervals, shortage
from spindlefit.shops import fits, is_number


def many_served(given):
    return len([size for size in given if size is not None])


def most_served(shop):
    return many_served(most_given(shop[0], shop[1]))


def service(shop):
    return tuple(most_given(shop[0], shop[1]))


def is_given(shop, machine, thing):
    """Whether thing is None or one of the sizes that fits the machine."""
    return thing is None or is_number(thing) and thing in shop[0] and fits(shop, machine, thing)


def is_service(shop, thing):
    if not isinstance(thing, tuple) or len(thing) != len(shop[1]):
        return False
    if not all([is_given(shop, machine, part) for machine, part in enumerate(thing)]):
        return False
    held = [size for size in thing if size is not None]
    return len(set(held)) == len(held)


def shows_service(shop, thing):
    return is_service(shop, thing) and many_served(thing) == most_served(shop)


def shortages(shop):
    rows = [(0, [])]
    # The intervals ascend: what can stand before one is in rows when its turn comes.
    for low, high in overfull_intervals(shop):
        total, before = max([pair for pair in rows if pair[1] == [] or pair[1][-1][1] < low])
        rows.append((total + shortage(shop, low, high), before + [(low, high)]))
    return max(rows)[1]


def are_apart(thing):
    """Whether thing is a list of intervals, the low of each above the high of the one before."""
    if not isinstance(thing, list) or not all([is_interval(part) for part in thing]):
        return False
    return all([before[1] < after[0] for before, after in zip(thing, thing[1:])])


def shows_shortages(shop, many, thing):
    return are_apart(thing) and sum([shortage(shop, low, high) for low, high in thing]) >= many
