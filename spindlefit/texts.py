"""Texts of shops, settings and rows. A function that begins with read returns None if its text is not so written."""

from spindlefit.errors import BadText
from spindlefit.shops import is_setting, is_shop

DIGITS = "0123456789"
MOST_DIGITS = 10


def read_number(text):
    # Python's own tests for digits also let pass digits of other scripts.
    if not 1 <= len(text) <= MOST_DIGITS or not all([sign in DIGITS for sign in text]):
        return None
    if text[0] == "0" and text != "0":
        return None
    return int(text)


def read_size(text):
    number = read_number(text)
    return None if number == 0 else number


def read_sizes(text):
    """One size or more, as a tuple."""
    sizes = tuple([read_size(part) for part in text.split(" ")])
    return None if None in sizes else sizes


def read_range(text):
    """A pair of sizes; low may be above high."""
    low, minus, high = text.partition("-")
    pair = (read_size(low), read_size(high))
    return None if None in pair else pair


def read_shop(text):
    sizes, slash, ranges = text.partition(" / ")
    shop = (read_sizes(sizes), tuple([read_range(part) for part in ranges.split(" ")]))
    return shop if is_shop(shop) else None


def read_setting(shop, text):
    setting = read_sizes(text)
    return setting if is_setting(shop, setting) else None


def read_swap(text):
    one, cross, other = text.partition("x")
    first, second = read_number(one), read_number(other)
    if first is None or second is None or first >= second:
        return None
    return ("swap", first, second)


def read_take(text):
    machine, arrow, size = text.partition("<")
    first, second = read_number(machine), read_size(size)
    if first is None or second is None:
        return None
    return ("take", first, second)


def read_exchange(text):
    return read_swap(text) if "x" in text else read_take(text)


def read_row(text):
    if text == "-":
        return []
    row = [read_exchange(part) for part in text.split(" ")]
    return None if None in row else row


def setting_text(setting):
    return " ".join([str(size) for size in setting])


def shop_text(shop):
    sizes, ranges = shop
    return setting_text(sizes) + " / " + " ".join([f"{low}-{high}" for low, high in ranges])


def exchange_text(exchange):
    word, first, second = exchange
    return f"{first}x{second}" if word == "swap" else f"{first}<{second}"


def row_text(row):
    return " ".join([exchange_text(exchange) for exchange in row]) or "-"


def shop_in(text):
    shop = read_shop(text)
    if shop is None:
        raise BadText(text)
    return shop


def setting_in(shop, text):
    setting = read_setting(shop, text)
    if setting is None:
        raise BadText(text)
    return setting


def row_in(text):
    row = read_row(text)
    if row is None:
        raise BadText(text)
    return row
