"""Rows of exchanges that lead from one setting to another."""

from spindlefit.errors import Locked, NoMachine, NotInRack, Unfit
from spindlefit.exchanges import exchanged, exchanges
from spindlefit.rings import fewest
from spindlefit.shops import is_number


def comes_nearer(held, new, wanted):
    return held < new <= wanted or wanted <= new < held


def is_nearing(before, after, other):
    """Whether the exchange between these two settings is nearing, for the setting other."""
    # Who takes part always gets another size, so all with the same size as before take no part.
    return all([held == new or comes_nearer(held, new, wanted) for held, new, wanted in zip(before, after, other)])


def first_step(shop, setting, other):
    """A nearing exchange that begins a shortest row, and the setting after it."""
    left = fewest(shop, setting, other)
    pairs = [(exchange, exchanged(shop, setting, exchange)) for exchange in exchanges(shop, setting)]
    nearing = [(exchange, after) for exchange, after in pairs if is_nearing(setting, after, other)]
    # Every ring and chain has one: of its machines that go up, the one with the greatest size finds above it, up to
    # where it wants to be, only such that go down, and not all of these can want to stay above it.
    return [(exchange, after) for exchange, after in nearing if fewest(shop, after, other) < left][0]


def check_settled(one, other, locked):
    """Raises the error for the least locked machine that is not settled."""
    for machine in locked:
        if one[machine] != other[machine]:
            raise Locked(machine)


def row_to(shop, one, other, locked=()):
    check_settled(one, other, locked)
    row = []
    here = tuple(one)
    while here != tuple(other):
        exchange, here = first_step(shop, here, other)
        row.append(exchange)
    return row


def is_exchange(thing):
    if not isinstance(thing, tuple) or len(thing) != 3:
        return False
    word, first, second = thing
    if not is_number(first) or not is_number(second):
        return False
    return word == "take" or word == "swap" and first < second


def after_thing(shop, setting, thing):
    """The setting after thing; None if that is no exchange, or one that is not possible."""
    if not is_exchange(thing):
        return None
    try:
        return exchanged(shop, setting, thing)
    except (NoMachine, NotInRack, Unfit):
        return None


def settings_along(shop, one, thing):
    """The settings before, between and after the exchanges of a row; [] if thing is no row that is possible."""
    if not isinstance(thing, list):
        return []
    found = [tuple(one)]
    for part in thing:
        after = after_thing(shop, found[-1], part)
        if after is None:
            return []
        found.append(after)
    return found


def shows_row(shop, one, other, thing):
    found = settings_along(shop, one, thing)
    return found != [] and found[-1] == tuple(other)


def shows_shortest(shop, one, other, thing):
    return shows_row(shop, one, other, thing) and len(thing) == fewest(shop, one, other)


def shows_nearing(shop, one, other, thing):
    if not shows_row(shop, one, other, thing):
        return False
    found = settings_along(shop, one, thing)
    return all([is_nearing(before, after, other) for before, after in zip(found, found[1:])])
