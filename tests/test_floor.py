import copy
import inspect
import random
import unittest

from common import (
    HUGE, LISTED_SHOP, MIXED_SHOPS, NO_MACHINES, NO_SPINDLES, SETTINGS, SHOP, TIGHT, WIDE, Case, fit, kinds_of, moves,
    outcome, pairs_at_the_bounds, remade, settings_of, shops_with_settings, steps_between,
)
from spindlefit.errors import (
    Duplicate, Full, Locked, NoMachine, NoState, NotInRack, NotLocked, OtherShop, SameMachine, Unfit,
)
from spindlefit.floor import Floor

START = (2, 3, 5)
OPERATIONS = "swap take run lock unlock widen deliver install undo".split()
QUERIES = "shop setting locked rack possible operations".split()
# Eight machines, each with its own size, and four sizes in the rack.
FULL = (WIDE, WIDE[0][:8])


def state_of(floor):
    return kinds_of([getattr(floor, name)() for name in QUERIES] + [len(floor), repr(floor)])


class FloorCase(Case):
    def op(self, floor, name, *given):
        """The outcome of a call on the floor itself, after point [2] was checked for it on copies of the floor.

        The call is made by position and by name, with lists for tuples and tuples for lists. It must have the same
        outcome, leave its arguments as they are, and log itself; if it raises an error it changes nothing else.
        """
        before, events = state_of(floor), floor.log()
        names = list(inspect.signature(getattr(floor, name)).parameters)
        self.assertEqual(len(names), len(given))
        seen = []
        for kind in (None, list, tuple):
            parts = [part if kind is None else remade(part, kind) for part in given]
            kept = kinds_of(copy.deepcopy(parts))
            other, named = copy.deepcopy(floor), copy.deepcopy(floor)
            seen.append((outcome(getattr(other, name), *parts), state_of(other), other.log()))
            last = outcome(getattr(named, name), **dict(zip(names[::-1], parts[::-1])))
            seen.append((last, state_of(named), named.log()))
            self.assertTrue(kinds_of(parts) == kept, name)
        for one in seen:
            self.assertTrue(one == seen[0], (name, seen))
        if name in OPERATIONS:
            self.assertEqual(seen[0][2], events + [("in", name), ("out", name)])
        else:
            self.assertEqual(seen[0][1:], (before, events))
        if seen[0][0][0] == "raised":
            self.assertTrue(seen[0][1] == before, name)
        # What was called are copies, so the floor is as before.
        self.assertTrue(state_of(floor) == before, name)
        return getattr(floor, name)(*given)

    def gives(self, expected, floor, name, *given):
        self.assertEqual(kinds_of(self.op(floor, name, *given)), kinds_of(expected))

    def refuses(self, error, floor, name, *given):
        with self.assertRaises(type(error)) as caught:
            self.op(floor, name, *given)
        self.assertIs(type(caught.exception), type(error))
        self.assertTrue(vars(caught.exception) == vars(error), type(error))

    def stands(self, floor, shop, setting, locked):
        """The floor is in this state, by exact kinds."""
        self.assertEqual(kinds_of((floor.shop(), floor.setting(), floor.locked())), kinds_of((shop, setting, locked)))


class Swap(FloorCase):
    def test_in_either_order(self):
        floor = Floor(SHOP, START)
        self.gives((2, 3), floor, "swap", 1, 0)
        self.stands(floor, SHOP, (3, 2, 5), ())
        self.gives((2, 3), floor, "swap", 0, 1)
        self.stands(floor, SHOP, (2, 3, 5), ())
        self.gives((5, 3), floor, "swap", 1, 2)
        self.gives((5, 3), floor, "swap", 2, 1)
        self.stands(floor, SHOP, START, ())
        self.assertEqual(floor.operations(), 4)

    def test_no_machine(self):
        for machine in NO_MACHINES:
            floor = Floor(SHOP, START)
            floor.lock(0)
            self.refuses(NoMachine(machine), floor, "swap", machine, 1)
            self.refuses(NoMachine(machine), floor, "swap", 1, machine)
            self.refuses(NoMachine(machine), floor, "swap", 0, machine)
            self.refuses(NoMachine(machine), floor, "swap", machine, machine)
            self.refuses(NoMachine(machine), floor, "swap", machine, 99)
            self.refuses(NoMachine(99), floor, "swap", 99, machine)

    def test_same_machine(self):
        floor = Floor(SHOP, START)
        for machine in range(3):
            self.refuses(SameMachine(machine), floor, "swap", machine, machine)
            floor.lock(machine)
            self.refuses(SameMachine(machine), floor, "swap", machine, machine)

    def test_locked(self):
        floor = Floor(SHOP, START)
        floor.lock(2)
        self.refuses(Locked(2), floor, "swap", 1, 2)
        self.refuses(Locked(2), floor, "swap", 2, 1)
        # It would not fit either.
        self.refuses(Locked(2), floor, "swap", 0, 2)
        floor.lock(0)
        self.refuses(Locked(0), floor, "swap", 0, 2)
        self.refuses(Locked(2), floor, "swap", 2, 0)

    def test_unfit(self):
        floor = Floor(SHOP, START)
        # Neither 5 fits machine 0 nor 2 machine 2: the lesser machine is named.
        self.refuses(Unfit(0), floor, "swap", 0, 2)
        self.refuses(Unfit(0), floor, "swap", 2, 0)
        floor = Floor(SHOP, (2, 7, 3))
        self.refuses(Unfit(0), floor, "swap", 1, 0)
        self.refuses(Unfit(2), floor, "swap", 0, 2)
        self.refuses(Unfit(2), floor, "swap", 2, 0)


class Take(FloorCase):
    def test_what_went_into_the_rack(self):
        floor = Floor(SHOP, START)
        self.gives(5, floor, "take", 2, 8)
        self.gives(3, floor, "take", 1, 5)
        self.gives(2, floor, "take", 0, 3)
        self.stands(floor, SHOP, (3, 5, 8), ())
        self.gives((2, 7), floor, "rack")

    def test_errors_in_their_order(self):
        floor = Floor(SHOP, START)
        floor.lock(0)
        for machine in NO_MACHINES:
            for size in (7, 3, 0, HUGE):
                self.refuses(NoMachine(machine), floor, "take", machine, size)
        for size in (7, 3, 2, 0, -1, HUGE):
            self.refuses(Locked(0), floor, "take", 0, size)
        for size in NO_SPINDLES + (2, 3, 5):
            self.refuses(NotInRack(size), floor, "take", 1, size)
        self.refuses(Unfit(1), floor, "take", 1, 8)
        floor.unlock(0)
        self.refuses(Unfit(0), floor, "take", 0, 8)
        self.refuses(NotInRack(5), floor, "take", 0, 5)


class Run(FloorCase):
    def test_one_operation(self):
        floor = Floor(SHOP, START)
        self.gives(None, floor, "run", [("take", 2, 8), ("swap", 0, 1), ("take", 1, 5)])
        self.stands(floor, SHOP, (3, 5, 8), ())
        self.assertEqual((floor.operations(), floor.log()), (1, [("in", "run"), ("out", "run")]))
        self.gives(True, floor, "undo")
        self.stands(floor, SHOP, START, ())

    def test_the_empty_row(self):
        floor = Floor(SHOP, START)
        self.gives(None, floor, "run", [])
        self.assertEqual((floor.operations(), floor.setting()), (1, START))
        self.gives(True, floor, "undo")
        self.gives(False, floor, "undo")

    def test_a_row_that_fails_in_the_middle(self):
        good = [("take", 2, 8), ("swap", 0, 1)]
        for bad, error in (
            (("swap", 0, 3), NoMachine(3)), (("swap", -1, 1), NoMachine(-1)), (("swap", -2, -1), NoMachine(-2)),
            (("swap", 3, HUGE), NoMachine(3)), (("take", 3, 5), NoMachine(3)), (("take", -1, 99), NoMachine(-1)),
            (("take", 1, 8), NotInRack(8)), (("take", 1, HUGE), NotInRack(HUGE)), (("take", 0, 7), Unfit(0)),
            (("swap", 1, 2), Unfit(1)), (("swap", 0, 2), Unfit(0)),
        ):
            for row in (good + [bad], good + [bad, ("take", 9, 9)], good + [bad, ("swap", 0, 1)]):
                self.refuses(error, Floor(SHOP, START), "run", row)
        floor = Floor(SHOP, START)
        floor.lock(1)
        self.refuses(Locked(1), floor, "run", good)
        self.refuses(Locked(1), floor, "run", [("take", 2, 8), ("take", 1, 99)])
        self.stands(floor, SHOP, START, (1,))
        self.gives(None, floor, "run", [("take", 2, 8), ("take", 2, 7)])

    def test_sixty_exchanges(self):
        floor = Floor(SHOP, START)
        self.gives(None, floor, "run", [("swap", 0, 1), ("swap", 0, 1), ("take", 2, 8), ("take", 2, 5)] * 15)
        self.assertEqual((floor.setting(), floor.operations()), (START, 1))


class Locks(FloorCase):
    def test_in_any_order(self):
        floor = Floor(SHOP, START)
        for machine, locked in ((2, (2,)), (0, (0, 2)), (1, (0, 1, 2))):
            self.gives(None, floor, "lock", machine)
            self.gives(locked, floor, "locked")
        for machine, locked in ((0, (1, 2)), (2, (1,)), (1, ())):
            self.gives(None, floor, "unlock", machine)
            self.gives(locked, floor, "locked")
        self.assertEqual(floor.operations(), 6)

    def test_errors(self):
        floor = Floor(SHOP, START)
        for machine in NO_MACHINES:
            self.refuses(NoMachine(machine), floor, "lock", machine)
            self.refuses(NoMachine(machine), floor, "unlock", machine)
        for machine in range(3):
            self.refuses(NotLocked(machine), floor, "unlock", machine)
            floor.lock(machine)
            self.refuses(Locked(machine), floor, "lock", machine)
        floor.unlock(1)
        self.refuses(NotLocked(1), floor, "unlock", 1)


class Changes(FloorCase):
    def test_widen(self):
        floor = Floor(SHOP, START)
        self.gives(None, floor, "widen", 0, 2, 9)
        self.stands(floor, (SHOP[0], ((2, 9), (2, 7), (3, 9))), START, ())
        # It may be narrower, too.
        self.gives(None, floor, "widen", 1, 3, 3)
        floor.lock(2)
        self.gives(None, floor, "widen", 2, 5, 10 ** 9)
        self.stands(floor, (SHOP[0], ((2, 9), (3, 3), (5, 10 ** 9))), START, (2,))
        self.gives([("take", 0, 7), ("take", 0, 8)], floor, "possible")

    def test_widen_errors(self):
        floor = Floor(SHOP, START)
        floor.lock(1)
        for machine in NO_MACHINES:
            for low, high in ((1, 4), (4, 1)):
                self.refuses(NoMachine(machine), floor, "widen", machine, low, high)
        for machine, size in enumerate(START):
            for low, high in ((size + 1, 9), (1, size - 1), (9, 1), (size + 1, size), (size, size - 1), (9, 8)):
                if low >= 1 and high >= 1:
                    self.refuses(Unfit(machine), floor, "widen", machine, low, high)
            self.gives(None, floor, "widen", machine, size, size)

    def test_deliver(self):
        floor = Floor(SHOP, START)
        for size, sizes in ((1, (1, 2, 3, 5, 7, 8)), (4, (1, 2, 3, 4, 5, 7, 8)), (9, (1, 2, 3, 4, 5, 7, 8, 9))):
            self.gives(None, floor, "deliver", size)
            self.stands(floor, (sizes, SHOP[1]), START, ())
        self.gives((1, 4, 7, 8, 9), floor, "rack")
        for size in (1, 2, 3, 9):
            self.refuses(Duplicate(size), floor, "deliver", size)
        self.gives(2, floor, "take", 0, 4)

    def test_deliver_at_twelve_spindles(self):
        floor = Floor((WIDE[0][:11], WIDE[1]), FULL[1])
        self.refuses(Duplicate(11), floor, "deliver", 11)
        self.gives(None, floor, "deliver", 99)
        for size in (12, 100, 10 ** 9):
            self.refuses(Full(12), floor, "deliver", size)
        for size in (1, 8, 9, 99):
            self.refuses(Duplicate(size), floor, "deliver", size)
        self.gives(True, floor, "undo")
        self.gives(None, floor, "deliver", 12)
        self.stands(floor, *FULL, ())

    def test_install(self):
        floor = Floor(SHOP, START)
        floor.lock(1)
        self.gives(3, floor, "install", 6, 9, 8)
        self.stands(floor, (SHOP[0], SHOP[1] + ((6, 9),)), START + (8,), (1,))
        self.gives(4, floor, "install", 7, 7, 7)
        self.gives((), floor, "rack")
        self.refuses(NotInRack(7), floor, "install", 7, 7, 7)
        self.assertEqual((len(floor), repr(floor)), (5, "Floor(5 machines, 5 spindles, 1 locked)"))
        self.gives(None, floor, "lock", 4)
        self.gives((1, 4), floor, "locked")

    def test_install_errors(self):
        floor = Floor(SHOP, START)
        for size in NO_SPINDLES + START:
            for low, high in ((1, 9), (9, 1), (4, 4)):
                self.refuses(NotInRack(size), floor, "install", low, high, size)
        for low, high in ((1, 6), (8, 9), (9, 1), (8, 7), (7, 6), (8, 6)):
            self.refuses(Unfit(3), floor, "install", low, high, 7)
        floor.install(1, 9, 8)
        self.refuses(Unfit(4), floor, "install", 9, 1, 7)

    def test_install_at_eight_machines(self):
        floor = Floor(*FULL)
        for low, high, size in ((1, 12, 9), (12, 1, 9), (1, 12, 1), (1, 2, 9), (1, 9, HUGE), (1, 9, -1)):
            self.refuses(Full(8), floor, "install", low, high, size)
        floor = Floor((WIDE[0], WIDE[1][:7]), FULL[1][:7])
        self.gives(7, floor, "install", 1, 12, 12)
        self.refuses(Full(8), floor, "install", 1, 12, 11)
        self.gives(True, floor, "undo")
        self.gives(7, floor, "install", 11, 11, 11)


class Undo(FloorCase):
    def test_every_kind_of_operation(self):
        calls = [
            ("swap", 0, 1), ("take", 2, 8), ("run", [("take", 1, 5)]), ("lock", 2), ("unlock", 2), ("widen", 0, 1, 9),
            ("deliver", 6), ("install", 1, 9, 6), ("lock", 3), ("run", []), ("install", 1, 9, 7), ("swap", 4, 0),
        ]
        floor = Floor(SHOP, START)
        states = []
        for name, *given in calls:
            states.append(state_of(floor))
            self.op(floor, name, *given)
            self.assertEqual(floor.operations(), len(states))
        while states:
            self.gives(True, floor, "undo")
            self.assertEqual(state_of(floor), states.pop())
        self.assertEqual(state_of(floor), state_of(Floor(SHOP, START)))
        self.gives(False, floor, "undo")
        self.gives(False, floor, "undo")
        self.assertEqual(floor.log()[-2:], [("in", "undo"), ("out", "undo")])

    def test_failed_calls_are_no_operations(self):
        floor = Floor(SHOP, START)
        floor.lock(0)
        for name, *given in (("swap", 0, 1), ("take", 9, 9), ("run", [("swap", 0, 1)]), ("lock", 0), ("unlock", 1),
                             ("widen", 0, 9, 1), ("deliver", 2), ("install", 1, 9, 2)):
            with self.assertRaises(Exception):
                getattr(floor, name)(*given)
        self.gives(1, floor, "operations")
        self.gives(True, floor, "undo")
        self.stands(floor, SHOP, START, ())
        self.gives(False, floor, "undo")

    def test_sixty_operations(self):
        floor = Floor(SHOP, START)
        for _ in range(15):
            for name, *given in (("swap", 1, 0), ("take", 2, 8), ("take", 2, 5), ("swap", 0, 1)):
                getattr(floor, name)(*given)
        self.assertEqual((floor.operations(), floor.setting(), len(floor.log())), (60, START, 120))
        for left in range(59, -1, -1):
            self.assertEqual((floor.undo(), floor.operations()), (True, left))
        self.assertIs(floor.undo(), False)


class Queries(FloorCase):
    def test_a_new_floor(self):
        for shop in [SHOP] + MIXED_SHOPS:
            for setting in (START, list(START)):
                floor = Floor(shop, setting)
                self.stands(floor, SHOP, START, ())
                self.gives((7, 8), floor, "rack")
                self.gives(0, floor, "operations")
                self.gives([], floor, "log")
                self.gives([("swap", 0, 1), ("swap", 1, 2), ("take", 1, 7), ("take", 2, 7), ("take", 2, 8)],
                           floor, "possible")
        self.assertEqual(Floor(setting=[2, 3, 5], shop=LISTED_SHOP), Floor(SHOP, START))

    def test_possible(self):
        for shop, found in shops_with_settings("possible", 30) + [(SHOP, SETTINGS)]:
            setting = found[len(found) // 2]
            floor = Floor(shop, setting)
            for machine in [None] + list(range(len(setting)))[::-1]:
                if machine is not None:
                    floor.lock(machine)
                self.gives(list(moves(shop, setting, floor.locked())), floor, "possible")
            self.assertEqual(floor.possible(), [])

    def test_fewest_to(self):
        for one in SETTINGS[::4]:
            floor = Floor(SHOP, one)
            for other in SETTINGS:
                self.gives(steps_between(one, other), floor, "fewest_to", other)
                self.gives(steps_between(one, other), floor, "fewest_to", list(other))

    def test_other_shop_comes_before_locked(self):
        floor = Floor(SHOP, START)
        floor.lock(2)
        floor.lock(1)
        for other in ((), (2,), (2, 3), (2, 3, 5, 7), (5, 2, 3), (2, 3, 3), (2, 3, 6), (0, 3, 5), (-2, 3, 5),
                      (3, 2, 9), (HUGE, 3, 5), (2, 3, -HUGE), (8, 8, 8), (2, 8, 5)):
            self.refuses(OtherShop(), floor, "fewest_to", other)
            self.refuses(OtherShop(), floor, "fewest_to", list(other))
        self.gives(0, floor, "fewest_to", START)
        self.refuses(Locked(1), floor, "fewest_to", (3, 2, 8))
        self.refuses(Locked(1), floor, "fewest_to", [3, 2, 5])
        self.refuses(Locked(2), floor, "fewest_to", (2, 3, 8))
        floor.unlock(1)
        self.refuses(Locked(2), floor, "fewest_to", (3, 2, 8))
        self.gives(1, floor, "fewest_to", (3, 2, 5))
        floor.widen(0, 1, 9)
        self.gives(2, floor, "fewest_to", (7, 2, 5))

    def test_as_of(self):
        floor = Floor(SHOP, START)
        calls = [("swap", 0, 1), ("lock", 0), ("deliver", 6), ("install", 5, 6, 6), ("widen", 1, 1, 9), ("run", [])]
        states = [state_of(floor)]
        for name, *given in calls:
            getattr(floor, name)(*given)
            states.append(state_of(floor))
        with self.assertRaises(Duplicate):
            floor.deliver(2)
        log = floor.log()
        for many in range(len(calls) + 1):
            for other in (floor.as_of(many), floor.as_of(many=many), floor.as_of(len(calls)).as_of(many)):
                self.assertIs(type(other), Floor)
                self.assertEqual((state_of(other), other.log()), (states[many], []))
                for left in range(many - 1, -1, -1):
                    self.assertIs(other.undo(), True)
                    self.assertEqual(state_of(other), states[left])
                self.assertIs(other.undo(), False)
        for many in (-1, -2, 7, 8, 60, HUGE, -HUGE):
            self.refuses(NoState(many), floor, "as_of", many)
        self.assertEqual((state_of(floor), floor.log()), (states[-1], log))
        floor.undo()
        self.refuses(NoState(6), floor, "as_of", 6)
        self.assertEqual(state_of(floor.as_of(5)), states[5])

    def test_twin(self):
        floor = Floor(SHOP, START)
        self.assertEqual((floor.twin() == floor, floor.twin().log()), (True, []))
        floor.swap(0, 1)
        floor.lock(2)
        twin = floor.twin()
        self.assertEqual((state_of(twin), twin.log(), twin == floor), (state_of(floor), [], True))
        self.assertEqual((twin.undo(), twin.undo(), twin.undo()), (True, True, False))
        self.assertEqual(state_of(twin), state_of(Floor(SHOP, START)))

    def test_log(self):
        floor = Floor(SHOP, START)
        expected = []
        for name, *given in (
            ("undo",), ("swap", 0, 1), ("swap", 0, 0), ("take", 2, 8), ("take", 2, 8), ("run", [("swap", 0, 1)]),
            ("run", [("take", 1, 5), ("take", 9, 9)]), ("lock", 0), ("lock", 0), ("unlock", 0), ("unlock", 0),
            ("widen", 0, 1, 9), ("widen", 9, 1, 9), ("deliver", 6), ("deliver", 6), ("install", 1, 9, 6),
            ("install", 1, 9, 6), ("undo",),
        ):
            outcome(getattr(floor, name), *given)
            expected += [("in", name), ("out", name)]
            self.assertEqual(kinds_of(floor.log()), kinds_of(expected))
        for name in QUERIES + ["log", "twin"]:
            getattr(floor, name)()
        floor.as_of(0), len(floor), repr(floor), floor == floor
        outcome(floor.as_of, -1), outcome(floor.fewest_to, (1,)), outcome(floor.fewest_to, floor.setting())
        self.assertEqual(floor.log(), expected)

    def test_equality(self):
        floor = Floor(SHOP, START)
        self.assertTrue(floor == floor and floor == Floor(LISTED_SHOP, list(START)))
        self.assertFalse(floor != Floor(SHOP, START))
        for other in (Floor(SHOP, (2, 3, 7)), Floor((SHOP[0] + (9,), SHOP[1]), START),
                      Floor((SHOP[0], ((1, 5), (2, 7), (3, 9))), START)):
            self.assertTrue(floor != other and other != floor)
            self.assertFalse(floor == other or other == floor)
        locked = Floor(SHOP, START)
        locked.lock(1)
        self.assertTrue(floor != locked)
        locked.unlock(1)
        # Neither what was done nor the log counts.
        self.assertTrue(floor == locked)
        other = Floor(SHOP, START)
        for machine in (0, 2):
            floor.lock(machine)
        for machine in (2, 0):
            other.lock(machine)
        self.assertTrue(floor == other)

    def test_unequal_to_every_other_value(self):
        floor = Floor(SHOP, START)
        for other in (None, 0, 3, True, "", "floor", repr(floor), (), [], SHOP, START, (SHOP, START), [SHOP, START],
                      (SHOP, START, ()), {}, object(), Floor, [floor]):
            self.assertIs(floor == other, False)
            self.assertIs(other == floor, False)
            self.assertIs(floor != other, True)

    def test_len_and_repr(self):
        self.assertEqual((len(Floor(SHOP, START)), repr(Floor(SHOP, START))),
                         (3, "Floor(3 machines, 5 spindles, 0 locked)"))
        floor = Floor(*FULL)
        for machine in range(8):
            floor.lock(machine)
        self.assertEqual((len(floor), repr(floor)), (8, "Floor(8 machines, 12 spindles, 8 locked)"))
        one = Floor(((4,), ((1, 9),)), (4,))
        self.assertEqual((len(one), repr(one)), (1, "Floor(1 machines, 1 spindles, 0 locked)"))
        one.lock(0)
        self.assertEqual(repr(one), "Floor(1 machines, 1 spindles, 1 locked)")
        self.assertTrue(one)

    def test_tight_shops(self):
        for shop in TIGHT:
            for setting in settings_of(shop):
                floor = Floor(shop, setting)
                self.gives(list(moves(shop, setting)), floor, "possible")
                self.gives(tuple(size for size in shop[0] if size not in setting), floor, "rack")


class Copies(FloorCase):
    def test_given_lists_may_change(self):
        shop, setting = copy.deepcopy(LISTED_SHOP), list(START)
        floor = Floor(shop, setting)
        setting[0] = 3
        shop[0].append(9)
        shop[1][0][0] = 2
        shop[1].append([1, 1])
        self.stands(floor, SHOP, START, ())
        row = [["take", 2, 8]]
        floor.run(row)
        row[0][2] = 7
        row.clear()
        self.stands(floor, SHOP, (2, 3, 8), ())
        other = [2, 3, 5]
        self.assertEqual(floor.fewest_to(other), 1)
        other.append(1)
        self.stands(floor, SHOP, (2, 3, 8), ())

    def test_returned_lists_may_change(self):
        floor = Floor(SHOP, START)
        floor.swap(0, 1)
        for name in ("possible", "log"):
            before = getattr(floor, name)()
            spoilt = getattr(floor, name)()
            spoilt.clear()
            self.assertEqual(getattr(floor, name)(), before)
            self.assertIsNot(getattr(floor, name)(), getattr(floor, name)())

    def test_floors_do_not_influence_one_another(self):
        floor = Floor(SHOP, START)
        floor.swap(0, 1)
        floor.lock(2)
        twin, first, middle = floor.twin(), floor.as_of(0), floor.as_of(1)
        floors = [floor, twin, first, middle]
        calls = [("undo",), ("widen", 0, 1, 5), ("deliver", 9), ("install", 1, 9, 7)]
        for changed, (name, *given) in zip(floors, calls):
            others = [other for other in floors if other is not changed]
            before = [(state_of(other), other.log()) for other in others]
            getattr(changed, name)(*given)
            self.assertEqual([(state_of(other), other.log()) for other in others], before)
        self.stands(floor, SHOP, (3, 2, 5), ())
        self.stands(twin, (SHOP[0], ((1, 5),) + SHOP[1][1:]), (3, 2, 5), (2,))
        self.stands(first, (SHOP[0] + (9,), SHOP[1]), START, ())
        self.stands(middle, (SHOP[0], SHOP[1] + ((1, 9),)), (3, 2, 5, 7), ())
        self.assertEqual([other.operations() for other in floors], [1, 3, 1, 2])


class Model:
    """A floor by the words of points [15] and [16], without the package except for its errors."""

    def __init__(self, shop, setting):
        self.sizes, self.ranges = list(shop[0]), list(shop[1])
        self.held, self.locked = list(setting), set()
        self.past = []

    def shop(self):
        return tuple(sorted(self.sizes)), tuple(self.ranges)

    def known(self, machine):
        if machine not in range(len(self.held)):
            raise NoMachine(machine)

    def free(self, machine):
        if machine in self.locked:
            raise Locked(machine)

    def give(self, pairs):
        for machine, size in sorted(pairs):
            if not fit(self.shop(), machine, size):
                raise Unfit(machine)
        for machine, size in pairs:
            self.held[machine] = size

    def swap(self, one, other):
        for machine in (one, other):
            self.known(machine)
        if one == other:
            raise SameMachine(one)
        for machine in (one, other):
            self.free(machine)
        self.give([(one, self.held[other]), (other, self.held[one])])
        return self.held[one], self.held[other]

    def take(self, machine, size):
        self.known(machine)
        self.free(machine)
        if size not in self.sizes or size in self.held:
            raise NotInRack(size)
        before = self.held[machine]
        self.give([(machine, size)])
        return before

    def run(self, row):
        for word, first, second in row:
            getattr(self, word)(first, second)

    def lock(self, machine):
        self.known(machine)
        self.free(machine)
        self.locked.add(machine)

    def unlock(self, machine):
        self.known(machine)
        if machine not in self.locked:
            raise NotLocked(machine)
        self.locked.remove(machine)

    def widen(self, machine, low, high):
        self.known(machine)
        if self.held[machine] not in range(low, high + 1):
            raise Unfit(machine)
        self.ranges[machine] = (low, high)

    def deliver(self, size):
        if size in self.sizes:
            raise Duplicate(size)
        if len(self.sizes) == 12:
            raise Full(12)
        self.sizes.append(size)

    def install(self, low, high, size):
        if len(self.held) == 8:
            raise Full(8)
        if size not in self.sizes or size in self.held:
            raise NotInRack(size)
        if size not in range(low, high + 1):
            raise Unfit(len(self.held))
        self.ranges.append((low, high))
        self.held.append(size)
        return len(self.held) - 1

    def undo(self):
        if not self.past:
            return False
        self.sizes, self.ranges, self.held, self.locked = self.past.pop()
        return True

    def call(self, name, *given):
        """The outcome of an operation; one that fails leaves all as it was."""
        before = copy.deepcopy((self.sizes, self.ranges, self.held, self.locked))
        seen = outcome(getattr(self, name), *given)
        if name != "undo" and seen[0] == "returned":
            self.past.append(before)
        elif seen[0] == "raised":
            self.sizes, self.ranges, self.held, self.locked = before
        return seen

    def state(self):
        """As state_of."""
        shop, setting, locked = self.shop(), tuple(self.held), tuple(sorted(self.locked))
        counts = f"Floor({len(setting)} machines, {len(shop[0])} spindles, {len(locked)} locked)"
        return kinds_of([
            shop, setting, locked, tuple(sorted(set(shop[0]) - set(setting))), list(moves(shop, setting, locked)),
            len(self.past), len(setting), counts,
        ])


def random_call(rng, model):
    """An operation that may well fail."""
    greatest = max(model.sizes) + 2

    def machine():
        return rng.randint(-1, len(model.held)) if rng.random() < 0.1 else rng.randrange(len(model.held))

    def size():
        return rng.choice(model.sizes) if rng.random() < 0.7 else rng.randint(1, greatest)

    def ends():
        return sorted((size(), size())) if rng.random() < 0.8 else (size(), size())

    name = rng.choice(OPERATIONS + ["swap", "take", "take", "run", "unlock", "undo"])
    if name == "run":
        row = []
        for _ in range(rng.choice((0, 1, 1, 2, 3))):
            one, other = sorted((machine(), machine()))
            row.append(("swap", one, other) if one < other and rng.random() < 0.5 else ("take", one, size()))
        return name, row
    given = {
        "swap": lambda: (machine(), machine()), "take": lambda: (machine(), size()), "lock": lambda: (machine(),),
        "unlock": lambda: (machine(),), "widen": lambda: (machine(), *ends()), "deliver": lambda: (size(),),
        "install": lambda: (*ends(), size()), "undo": lambda: (),
    }
    return name, *given[name]()


def like_new(model):
    """A new floor in the state of the model."""
    floor = Floor(model.shop(), model.held)
    for machine in model.locked:
        floor.lock(machine)
    return floor


class RandomOperations(FloorCase):
    def check_state(self, floor, model, rng):
        self.assertEqual(state_of(floor), model.state())
        new = like_new(model)
        self.assertTrue(floor == new)
        for name in ("shop", "setting", "locked", "rack", "possible"):
            self.assertEqual(kinds_of(getattr(floor, name)()), kinds_of(getattr(new, name)()))
        self.assertEqual((len(floor), repr(floor)), (len(new), repr(new)))
        others = [tuple(rng.sample(model.sizes, len(model.held))), tuple(rng.sample(model.sizes, 1)), floor.setting()]
        for exchange, after in list(moves(model.shop(), tuple(model.held)).items())[:3]:
            others.append(after)
        for other in others:
            self.assertEqual(outcome(floor.fewest_to, other), outcome(new.fewest_to, other))

    def play(self, shop, setting, rng, steps, seen):
        floor, model = Floor(shop, setting), Model(shop, setting)
        log, states = [], [model.state()]
        for _ in range(steps):
            name, *given = random_call(rng, model)
            expected = model.call(name, *given)
            self.assertEqual(outcome(getattr(floor, name), *given), expected, (name, given))
            seen.setdefault(name, set()).add(expected[1] if expected[0] == "raised" else None)
            log += [("in", name), ("out", name)]
            states = states[:len(model.past)] + [model.state()]
            self.check_state(floor, model, rng)
        self.assertEqual(floor.log(), log)
        for many in range(floor.operations() + 1):
            other = floor.as_of(many)
            self.assertEqual((state_of(other), other.log()), (states[many], []))
        twin = floor.twin()
        while twin.undo():
            states.pop()
            self.assertEqual(state_of(twin), states[-1])

    def test_small_and_large_shops(self):
        rng = random.Random("floor")
        seen = {}
        starts = [(SHOP, START), FULL, (((4,), ((1, 9),)), (4,))]
        starts += [(shop, one) for shop, one, _ in pairs_at_the_bounds("floor", 10)]
        starts += [(shop, rng.choice(found)) for shop, found in shops_with_settings("floor", 40)]
        for shop, setting in starts:
            self.play(shop, setting, rng, 50, seen)
        exchange = {NoMachine, Locked, Unfit, None}
        for name, kinds in {
            "swap": exchange | {SameMachine}, "take": exchange | {NotInRack}, "run": exchange | {NotInRack},
            "lock": {NoMachine, Locked, None}, "unlock": {NoMachine, NotLocked, None},
            "widen": {NoMachine, Unfit, None}, "deliver": {Duplicate, Full, None},
            "install": {Full, NotInRack, Unfit, None}, "undo": {None},
        }.items():
            self.assertEqual(seen[name], kinds, name)


class Interface(unittest.TestCase):
    def test_each_method_stands_in_the_class(self):
        written = (
            "__init__(self, shop, setting) swap(self, one, other) take(self, machine, size) run(self, row) "
            "lock(self, machine) unlock(self, machine) widen(self, machine, low, high) deliver(self, size) "
            "install(self, low, high, size) undo(self) shop(self) setting(self) locked(self) rack(self) "
            "possible(self) fewest_to(self, other) operations(self) as_of(self, many) twin(self) log(self)"
        )
        for name, parameters in [part.split("(") for part in written.replace(") ", ")|").split("|")]:
            self.assertEqual(str(inspect.signature(vars(Floor)[name])), "(" + parameters)
        for name in ("__eq__", "__len__", "__repr__"):
            self.assertIn(name, vars(Floor))
        self.assertEqual(Floor.__bases__, (object,))


if __name__ == "__main__":
    unittest.main()
