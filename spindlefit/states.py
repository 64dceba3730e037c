"""The states of a floor, and what each operation makes of one.

A state is a triple of a shop, a setting of it, and the ascending tuple of the locked machines. It is never changed:
each operation makes a new one.
"""

from spindlefit.changes import with_machine, with_range, with_spindle
from spindlefit.errors import Duplicate, Full, Locked, NotInRack, NotLocked, OtherShop, SameMachine, Unfit
from spindlefit.exchanges import exchanged, exchanges, new_sizes
from spindlefit.limits import MOST_MACHINES, MOST_SPINDLES
from spindlefit.rings import fewest
from spindlefit.rows import check_settled
from spindlefit.shops import check_machine, in_tuples, is_setting, rack


def first_state(shop, setting):
    return (in_tuples(shop), tuple(setting), ())


def check_free(locked, machine):
    if machine in locked:
        raise Locked(machine)


def after_swap(state, one, other):
    shop, setting, locked = state
    check_machine(shop, one)
    check_machine(shop, other)
    if one == other:
        raise SameMachine(one)
    check_free(locked, one)
    check_free(locked, other)
    return (shop, exchanged(shop, setting, ("swap", min(one, other), max(one, other))), locked)


def after_take(state, machine, size):
    shop, setting, locked = state
    check_machine(shop, machine)
    check_free(locked, machine)
    return (shop, exchanged(shop, setting, ("take", machine, size)), locked)


def after_row(state, row):
    after = state
    for word, first, second in row:
        if word == "swap":
            after = after_swap(after, first, second)
        else:
            after = after_take(after, first, second)
    return after


def after_lock(state, machine):
    shop, setting, locked = state
    check_machine(shop, machine)
    check_free(locked, machine)
    return (shop, setting, tuple(sorted(locked + (machine,))))


def after_unlock(state, machine):
    shop, setting, locked = state
    check_machine(shop, machine)
    if machine not in locked:
        raise NotLocked(machine)
    return (shop, setting, tuple([other for other in locked if other != machine]))


def after_widen(state, machine, low, high):
    shop, setting, locked = state
    check_machine(shop, machine)
    # Nothing is from low to high if low is above high.
    if not low <= setting[machine] <= high:
        raise Unfit(machine)
    return (with_range(shop, machine, low, high), setting, locked)


def after_deliver(state, size):
    shop, setting, locked = state
    if size in shop[0]:
        raise Duplicate(size)
    if len(shop[0]) >= MOST_SPINDLES:
        raise Full(MOST_SPINDLES)
    return (with_spindle(shop, size), setting, locked)


def after_install(state, low, high, size):
    shop, setting, locked = state
    if len(setting) >= MOST_MACHINES:
        raise Full(MOST_MACHINES)
    if size not in rack(shop, setting):
        raise NotInRack(size)
    if not low <= size <= high:
        raise Unfit(len(setting))
    return (with_machine(shop, low, high), setting + (size,), locked)


def free_sizes(state):
    """The sizes in the rack, ascending."""
    return rack(state[0], state[1])


def free_exchanges(state):
    """The exchanges that are possible and in which no locked machine takes part, ascending."""
    shop, setting, locked = state
    return [exchange for exchange in exchanges(shop, setting)
            if not any([machine in locked for machine, size in new_sizes(setting, exchange)])]


def check_other(shop, other):
    if not is_setting(shop, tuple(other)):
        raise OtherShop()


def fewest_between(state, other):
    shop, setting, locked = state
    check_other(shop, other)
    check_settled(setting, other, locked)
    return fewest(shop, setting, other)
