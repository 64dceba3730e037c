"""A floor: a shop and a setting of it, kept over operations that can be undone."""

from spindlefit.errors import NoState
from spindlefit.states import (
    after_deliver, after_install, after_lock, after_row, after_swap, after_take, after_unlock, after_widen,
    fewest_between, first_state, free_exchanges, free_sizes,
)


class Floor:
    """Each operation makes a new state, or raises an error and makes none; both are logged."""

    def __init__(self, shop, setting):
        # The first state, then the one after each operation in effect. States are never changed, so floors share them.
        self.states = [first_state(shop, setting)]
        self.entries = []

    def swap(self, one, other):
        self.entries.append(("in", "swap"))
        try:
            self.states.append(after_swap(self.states[-1], one, other))
            setting = self.setting()
            return (setting[one], setting[other])
        finally:
            self.entries.append(("out", "swap"))

    def take(self, machine, size):
        self.entries.append(("in", "take"))
        try:
            before = self.setting()
            self.states.append(after_take(self.states[-1], machine, size))
            return before[machine]
        finally:
            self.entries.append(("out", "take"))

    def run(self, row):
        self.entries.append(("in", "run"))
        try:
            self.states.append(after_row(self.states[-1], row))
        finally:
            self.entries.append(("out", "run"))

    def lock(self, machine):
        self.entries.append(("in", "lock"))
        try:
            self.states.append(after_lock(self.states[-1], machine))
        finally:
            self.entries.append(("out", "lock"))

    def unlock(self, machine):
        self.entries.append(("in", "unlock"))
        try:
            self.states.append(after_unlock(self.states[-1], machine))
        finally:
            self.entries.append(("out", "unlock"))

    def widen(self, machine, low, high):
        self.entries.append(("in", "widen"))
        try:
            self.states.append(after_widen(self.states[-1], machine, low, high))
        finally:
            self.entries.append(("out", "widen"))

    def deliver(self, size):
        self.entries.append(("in", "deliver"))
        try:
            self.states.append(after_deliver(self.states[-1], size))
        finally:
            self.entries.append(("out", "deliver"))

    def install(self, low, high, size):
        self.entries.append(("in", "install"))
        try:
            self.states.append(after_install(self.states[-1], low, high, size))
            return len(self.setting()) - 1
        finally:
            self.entries.append(("out", "install"))

    def undo(self):
        self.entries.append(("in", "undo"))
        undone = self.operations() > 0
        if undone:
            self.states.pop()
        self.entries.append(("out", "undo"))
        return undone

    def shop(self):
        return self.states[-1][0]

    def setting(self):
        return self.states[-1][1]

    def locked(self):
        return self.states[-1][2]

    def rack(self):
        return free_sizes(self.states[-1])

    def possible(self):
        return free_exchanges(self.states[-1])

    def fewest_to(self, other):
        return fewest_between(self.states[-1], other)

    def operations(self):
        return len(self.states) - 1

    def as_of(self, many):
        if not 0 <= many <= self.operations():
            raise NoState(many)
        shop, setting, locked = self.states[0]
        floor = Floor(shop, setting)
        floor.states = self.states[:many + 1]
        return floor

    def twin(self):
        return self.as_of(self.operations())

    def log(self):
        return list(self.entries)

    def __eq__(self, other):
        return isinstance(other, Floor) and self.states[-1] == other.states[-1]

    def __len__(self):
        return len(self.setting())

    def __repr__(self):
        return f"Floor({len(self)} machines, {len(self.shop()[0])} spindles, {len(self.locked())} locked)"
