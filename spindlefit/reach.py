"""What a machine can come to hold while other machines are locked."""

from spindlefit.errors import Unreachable
from spindlefit.rings import fewest
from spindlefit.rows import row_to
from spindlefit.shops import check_machine, fits, holder, rack


def free_sizes(shop, setting, locked):
    kept = [setting[machine] for machine in locked]
    return [size for size in shop[0] if size not in kept]


def next_layer(shop, setting, layer, free, takers):
    """The free sizes, not in takers yet, that the holders of the sizes of a layer can take; they enter takers."""
    found = []
    for held in layer:
        machine = holder(setting, held)
        for size in free:
            if size not in takers and fits(shop, machine, size):
                takers[size] = machine
                found.append(size)
    return found


def last_size(shop, setting, machine, free, takers):
    """Where the shortest way ends on which each size is given up for the next; None if there is none.

    takers, a dict, has the size that the machine takes first, and gets for each further size who takes it.
    """
    layer = list(takers)
    # The machine's own spindle comes first: it closes a ring, which needs one exchange fewer than a chain.
    ends = [setting[machine]] + list(rack(shop, setting))
    while layer:
        for size in ends:
            if size in layer:
                return size
        layer = next_layer(shop, setting, layer, free, takers)
    return None


def goal_for(shop, setting, machine, size, locked):
    """A nearest setting in which the machine holds size; None if there is none."""
    if setting[machine] == size:
        return tuple(setting)
    free = free_sizes(shop, setting, locked)
    if machine in locked or size not in free or not fits(shop, machine, size):
        return None
    takers = {size: machine}
    given = last_size(shop, setting, machine, free, takers)
    if given is None:
        return None
    goal = list(setting)
    while goal[machine] != size:
        taker = takers[given]
        goal[taker] = given
        given = setting[taker]
    return tuple(goal)


def can_come(shop, setting, machine, locked=()):
    check_machine(shop, machine)
    return [size for size in shop[0] if goal_for(shop, setting, machine, size, locked) is not None]


def still(shop, setting, locked=()):
    return [machine for machine in range(len(setting)) if len(can_come(shop, setting, machine, locked)) == 1]


def checked_goal(shop, setting, machine, size, locked):
    check_machine(shop, machine)
    goal = goal_for(shop, setting, machine, size, locked)
    if goal is None:
        raise Unreachable(size)
    return goal


def fewest_for(shop, setting, machine, size, locked=()):
    return fewest(shop, setting, checked_goal(shop, setting, machine, size, locked))


def row_for(shop, setting, machine, size, locked=()):
    # Between a setting and its goal the locked machines are settled, so they take no part in a shortest row.
    return row_to(shop, setting, checked_goal(shop, setting, machine, size, locked))
