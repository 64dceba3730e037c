"""Shortest rows, counted and numbered without listing them.

Each ring is a loop, and so is each chain, closed by a number that stands for its place in the rack: a take is then a
swap with that place. In a loop, each one wants what the next one has. A row is a shortest one exactly if each of its
exchanges is made within one loop, which it splits in two.
"""

from spindlefit.errors import Misfit, NoRow
from spindlefit.rings import chains, rings
from spindlefit.shops import fits


def loops_between(shop, one, other):
    """All loops, and the list of what each machine and each place in the rack is to have in the end."""
    many = len(one)
    open_ones = chains(shop, one, other)
    loops = [tuple(ring) for ring in rings(shop, one, other)]
    loops += [tuple(chain + [many + at]) for at, chain in enumerate(open_ones)]
    return loops, list(other) + [one[chain[0]] for chain in open_ones]


def is_place(shop, member):
    """Whether a member of a loop is a place in the rack."""
    return member >= len(shop[1])


def may_get(shop, member, size):
    return is_place(shop, member) or fits(shop, member, size)


def exchange_of(shop, one, other, size):
    """The exchange of two members of a loop, in its order; one gets size from the other."""
    # A place in the rack is the last of its loop, also in what a split leaves of it.
    if is_place(shop, other):
        return ("take", one, size)
    return ("swap", min(one, other), max(one, other))


def splits(shop, goals, loop):
    """All possible exchanges between two members of a loop, each with the two loops it leaves."""
    found = []
    for high in range(len(loop)):
        for low in range(high):
            one, other = loop[low], loop[high]
            # Each member has what the one before it wants; the one before the first is the last.
            one_gets, other_gets = goals[loop[high - 1]], goals[loop[low - 1]]
            if may_get(shop, one, one_gets) and may_get(shop, other, other_gets):
                exchange = exchange_of(shop, one, other, one_gets)
                found.append((exchange, loop[low:high], loop[:low] + loop[high:]))
    return found


def choices(many, chosen):
    """In how many ways so many can be chosen out of many."""
    ways = 1
    for at in range(chosen):
        ways = ways * (many - at) // (at + 1)
    return ways


def count_in_loop(shop, goals, loop, known):
    """How many rows settle a loop; known, a dict, keeps what is computed once."""
    if len(loop) == 1:
        return 1
    if loop not in known:
        known[loop] = sum([count_in_all(shop, goals, [inner, outer], known)
                           for exchange, inner, outer in splits(shop, goals, loop)])
    return known[loop]


def count_in_all(shop, goals, loops, known):
    """How many rows settle all loops: those of each loop, mingled in every way, for no two loops share anything."""
    count = 1
    length = 0
    for loop in loops:
        more = len(loop) - 1
        length += more
        count *= choices(length, more) * count_in_loop(shop, goals, loop, known)
    return count


def first_steps(shop, goals, loops):
    """The ascending list of the exchanges that begin a shortest row, each with the loops after it."""
    found = []
    for at, loop in enumerate(loops):
        rest = loops[:at] + loops[at + 1:]
        found += [(exchange, rest + [inner, outer]) for exchange, inner, outer in splits(shop, goals, loop)]
    return sorted(found)


def row_count(shop, one, other):
    loops, goals = loops_between(shop, one, other)
    return count_in_all(shop, goals, loops, {})


def first_exchanges(shop, one, other):
    loops, goals = loops_between(shop, one, other)
    return [exchange for exchange, after in first_steps(shop, goals, loops)]


def row_at(shop, one, other, number):
    loops, goals = loops_between(shop, one, other)
    known = {}
    if not 0 <= number < count_in_all(shop, goals, loops, known):
        raise NoRow(number)
    row = []
    left = number
    steps = first_steps(shop, goals, loops)
    while steps:
        for exchange, after in steps:
            many = count_in_all(shop, goals, after, known)
            if left < many:
                break
            left -= many
        row.append(exchange)
        steps = first_steps(shop, goals, after)
    return row


def number_of(shop, one, other, row):
    loops, goals = loops_between(shop, one, other)
    known = {}
    number = 0
    steps = first_steps(shop, goals, loops)
    for place, given in enumerate(row):
        exchange = tuple(given)
        same = [after for step, after in steps if step == exchange]
        if not same:
            raise Misfit(place)
        number += sum([count_in_all(shop, goals, after, known) for step, after in steps if step < exchange])
        steps = first_steps(shop, goals, same[0])
    if steps:
        raise Misfit(len(row))
    return number
