"""What leads from one setting to another: rings, chains, and machines that are settled."""

from spindlefit.shops import holder


def next_machines(one, other):
    """For each machine the one that holds what it wants; None if that lies in the rack."""
    return [holder(one, size) for size in other]


def walk_from(machine, nexts):
    """The machine and those behind it, up to the rack or until the machine comes again; then whether it does."""
    walk = [machine]
    after = nexts[machine]
    while after is not None and after != machine:
        walk.append(after)
        after = nexts[after]
    return walk, after == machine


def rings(shop, one, other):
    nexts = next_machines(one, other)
    walks = [walk_from(machine, nexts) for machine in range(len(one))]
    # A ring is walked once from each of its machines, and a settled machine is a walk of its own.
    return [walk for walk, closed in walks if closed and len(walk) > 1 and walk[0] == min(walk)]


def chains(shop, one, other):
    nexts = next_machines(one, other)
    return [walk_from(machine, nexts)[0] for machine, size in enumerate(one) if size not in other]


def settled(shop, one, other):
    return [machine for machine, size in enumerate(one) if other[machine] == size]


def fewest(shop, one, other):
    in_rings = sum([len(ring) - 1 for ring in rings(shop, one, other)])
    return in_rings + sum([len(chain) for chain in chains(shop, one, other)])


def way(one, other):
    return sum([abs(held - wanted) for held, wanted in zip(one, other)])
