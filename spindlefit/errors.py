"""The errors of the package, each a direct subclass of one of Python's own."""


class Unfit(ValueError):
    """A spindle does not fit the machine."""

    def __init__(self, machine):
        self.machine = machine


class SameMachine(ValueError):
    """A machine cannot exchange with itself."""

    def __init__(self, machine):
        self.machine = machine


class Misfit(ValueError):
    """No shortest row begins with the exchanges up to this place."""

    def __init__(self, place):
        self.place = place


class Duplicate(ValueError):
    """There is a spindle of that size already."""

    def __init__(self, size):
        self.size = size


class Contradiction(ValueError):
    """No range agrees with the trials of the machine."""

    def __init__(self, machine):
        self.machine = machine


class BadText(ValueError):
    """Nothing has that text."""

    def __init__(self, text):
        self.text = text


class BadLine(ValueError):
    """The line with that index is not written as a sheet requires."""

    def __init__(self, number):
        self.number = number


class NoMachine(LookupError):
    """There is no machine with that number."""

    def __init__(self, machine):
        self.machine = machine


class NotInRack(LookupError):
    """The size does not lie in the rack."""

    def __init__(self, size):
        self.size = size


class NoRow(LookupError):
    """There is no shortest row with that number."""

    def __init__(self, number):
        self.number = number


class NoNumber(LookupError):
    """There is no setting with that number."""

    def __init__(self, number):
        self.number = number


class NoSpindle(LookupError):
    """There is no spindle of that size."""

    def __init__(self, size):
        self.size = size


class NoState(LookupError):
    """There is no state after so many operations."""

    def __init__(self, many):
        self.many = many


class NoSetting(RuntimeError):
    """The shop has no setting."""


class Locked(RuntimeError):
    """The machine is locked."""

    def __init__(self, machine):
        self.machine = machine


class NotLocked(RuntimeError):
    """The machine is not locked."""

    def __init__(self, machine):
        self.machine = machine


class Unreachable(RuntimeError):
    """The machine can never hold that size."""

    def __init__(self, size):
        self.size = size


class LastSpindle(RuntimeError):
    """A shop keeps at least one spindle."""


class OtherShop(RuntimeError):
    """The tuple is no setting of this shop."""


class TooMany(OverflowError):
    """There are more than may be listed."""

    def __init__(self, many):
        self.many = many


class Full(OverflowError):
    """There is room for so many and no more."""

    def __init__(self, many):
        self.many = many
