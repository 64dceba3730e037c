"""A sheet: a shop, a setting of it, and lines that a floor of these answers."""

from spindlefit.counting import row_count
from spindlefit.errors import (
    BadLine, Duplicate, Full, Locked, NoMachine, NotInRack, NotLocked, OtherShop, SameMachine, Unfit,
)
from spindlefit.floor import Floor
from spindlefit.reach import can_come
from spindlefit.states import check_other
from spindlefit.texts import read_number, read_row, read_setting, read_shop, read_size, row_text

# Word -> what stands behind it: M for a machine, S for a size.
FORMS = {
    "swap": "MM", "take": "MS", "lock": "M", "unlock": "M", "widen": "MSS", "deliver": "S", "install": "SSS",
    "undo": "", "setting": "", "rack": "", "possible": "", "hold": "M",
}
# Behind these stand one size or more.
WITH_SIZES = ("to", "rows")
QUESTIONS = ("setting", "rack", "to", "hold", "rows")


def read_numbers(parts, form):
    """The numbers, as many as the form has letters; None if they are not so written."""
    if len(parts) != len(form):
        return None
    numbers = [read_number(part) if letter == "M" else read_size(part) for part, letter in zip(parts, form)]
    return None if None in numbers else numbers


def rest_of(line, word):
    """What stands behind the word and a blank; nothing, which is no text of anything, if the line begins otherwise."""
    return line[len(word) + 1:] if line.startswith(word + " ") else ""


def read_values(line):
    """The list of what stands behind the word of a line; None if the line is not so written."""
    parts = line.split(" ")
    word = parts[0]
    if word == "run":
        return read_row(rest_of(line, word))
    if word in WITH_SIZES:
        return read_numbers(parts[1:], "S" * max(1, len(parts) - 1))
    if word in FORMS:
        return read_numbers(parts[1:], FORMS[word])
    return None


def floor_of(lines):
    shop = read_shop(rest_of(lines[0], "shop"))
    if shop is None:
        raise BadLine(0)
    setting = read_setting(shop, rest_of(lines[1], "set")) if len(lines) > 1 else None
    if setting is None:
        raise BadLine(1)
    return Floor(shop, setting)


def operated(floor, word, values):
    """What the operation with that word returns."""
    if word == "swap":
        return floor.swap(*values)
    if word == "take":
        return floor.take(*values)
    if word == "run":
        return floor.run(values)
    if word == "lock":
        return floor.lock(*values)
    if word == "unlock":
        return floor.unlock(*values)
    if word == "widen":
        return floor.widen(*values)
    if word == "deliver":
        return floor.deliver(*values)
    if word == "install":
        return floor.install(*values)
    return floor.undo()


def count_of_rows(floor, other):
    check_other(floor.shop(), other)
    return row_count(floor.shop(), floor.setting(), other)


def asked(floor, word, values):
    """What the question with that word returns."""
    if word == "setting":
        return floor.setting()
    if word == "rack":
        return floor.rack()
    if word == "to":
        return floor.fewest_to(values)
    if word == "hold":
        return can_come(floor.shop(), floor.setting(), values[0], floor.locked())
    return count_of_rows(floor, values)


def told(value):
    """The text of what was returned: nothing, yes or no, a number, or several of them."""
    if value is None:
        return "done"
    if value is True:
        return "yes"
    if value is False:
        return "no"
    if isinstance(value, int):
        return str(value)
    return " ".join([str(number) for number in value]) or "-"


def answer_to(floor, word, values):
    if word == "possible":
        return row_text(floor.possible())
    if word in QUESTIONS:
        return told(asked(floor, word, values))
    return told(operated(floor, word, values))


def answer_or_error(floor, word, values):
    """The answer to a line, also if it raises an error: these are all that operations and questions raise."""
    try:
        return answer_to(floor, word, values)
    except Unfit:
        return "error Unfit"
    except SameMachine:
        return "error SameMachine"
    except Duplicate:
        return "error Duplicate"
    except NoMachine:
        return "error NoMachine"
    except NotInRack:
        return "error NotInRack"
    except Locked:
        return "error Locked"
    except NotLocked:
        return "error NotLocked"
    except OtherShop:
        return "error OtherShop"
    except Full:
        return "error Full"


def answers(text):
    lines = text.split("\n")
    floor = floor_of(lines)
    steps = []
    for number, line in enumerate(lines[2:], start=2):
        values = read_values(line)
        if values is None:
            raise BadLine(number)
        steps.append((line.split(" ")[0], values))
    return [answer_or_error(floor, word, values) for word, values in steps]
