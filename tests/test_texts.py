import itertools
import random
import re
import unittest

from common import (
    LISTED_SHOP, MIXED_SHOPS, SETTINGS, SHOP, TIGHT, WIDE, WITHOUT, Case, large_shops, moves, pairs_at_the_bounds,
    settings_of, small_shops,
)
from spindlefit.errors import BadText
from spindlefit.texts import row_in, row_text, setting_in, setting_text, shop_in, shop_text

TEXT = "2 3 5 7 8 / 1-4 2-7 3-9"
ROW = [("swap", 0, 1), ("take", 2, 8)]
# What no number is written like, as a size or as a machine.
NO_NUMBERS = [
    "", " ", "-", "-1", "+1", "01", "00", "007", "12345678901", "10000000000", "1.0", "1e3", "0x1f", "1_0", "one",
    "\u0662", "\u00b2", "\uff12", "\u0967", "\u2460", "2\u0662", "2\n", "\n2", "2\t", "\t2", "2\r", "2 ", " 2",
    "2\u00a0", "2\x0b", "2\x00", "2,", "(2)", "None", "True", "\ud800",
]
SIZE_TEXT = "[1-9][0-9]{0,9}"
MACHINE_TEXT = f"(?:0|{SIZE_TEXT})"
SHOP_TEXT = f"{SIZE_TEXT}(?: {SIZE_TEXT})* / {SIZE_TEXT}-{SIZE_TEXT}(?: {SIZE_TEXT}-{SIZE_TEXT})*"
ROW_TEXT = f"(?:{MACHINE_TEXT}(?:x{MACHINE_TEXT}|<{SIZE_TEXT}))"
SIGNS = "0123456789 -/x<\n+."


def shop_by_pattern(text):
    """The shop with that text, or None."""
    if not re.fullmatch(SHOP_TEXT, text):
        return None
    sizes, ranges = [re.findall("[0-9]+", part) for part in text.split("/")]
    sizes, ends = tuple(map(int, sizes)), tuple(map(int, ranges))
    pairs = tuple(zip(ends[::2], ends[1::2]))
    if any(one >= other for one, other in zip(sizes, sizes[1:])) or any(low > high for low, high in pairs):
        return None
    return sizes, pairs


def row_by_pattern(text):
    if text == "-":
        return []
    if not re.fullmatch(f"{ROW_TEXT}(?: {ROW_TEXT})*", text):
        return None
    found = [re.fullmatch("([0-9]+)(.)([0-9]+)", part).groups() for part in text.split(" ")]
    row = [("swap" if sign == "x" else "take", int(first), int(second)) for first, sign, second in found]
    return None if any(word == "swap" and first >= second for word, first, second in row) else row


def changed_texts(text, rng, many):
    """Texts with one sign more, fewer or other, or with two parts exchanged."""
    for _ in range(many):
        at = rng.randrange(len(text) + 1)
        yield text[:at] + rng.choice(SIGNS) + text[at:]
        yield text[:at] + text[at + 1:]
        yield text[:at] + rng.choice(SIGNS) + text[at + 1:]
        parts = text.split(" ")
        rng.shuffle(parts)
        yield " ".join(parts)


class Shops(Case):
    def test_each_text_and_back(self):
        shops = small_shops("texts", 100) + large_shops("texts", 30) + WITHOUT + TIGHT + [SHOP, WIDE]
        for sizes, ranges in shops:
            text = " ".join(map(str, sizes)) + " / " + " ".join("-".join(map(str, pair)) for pair in ranges)
            self.returns(text, shop_text, (sizes, ranges))
            self.returns((sizes, ranges), shop_in, text)

    def test_the_shop(self):
        for shop in [SHOP] + MIXED_SHOPS:
            self.returns(TEXT, shop_text, shop)
        self.returns(SHOP, shop_in, TEXT)
        self.returns(((1,), ((1, 1),)), shop_in, "1 / 1-1")
        self.returns(((9999999999,), ((1000000000, 9999999999),)), shop_in, "9999999999 / 1000000000-9999999999")

    def test_beyond_the_bounds(self):
        shop = (tuple(range(1, 200)), tuple((k, k + 5) for k in range(1, 100)))
        self.returns(shop, shop_in, shop_text(shop))

    def test_wrong_numbers(self):
        for wrong in NO_NUMBERS + ["0", "3-4", "/"]:
            for text in (f"{wrong} / 1-4", f"2 {wrong} / 1-4", f"{wrong} 9 / 1-4", f"2 / {wrong}-4", f"2 / 1-{wrong}",
                         f"2 / 1-4 {wrong}-7", f"2 / 1-4 2-{wrong}"):
                self.fails(BadText(text), shop_in, text)

    def test_texts_that_are_not_so_written(self):
        for text in (
            "", " ", "/", " / ", "2", "2 3", "2 /", "2 / ", " / 1-4", "/ 1-4", "1-4", "2/1-4", "2 /1-4", "2/ 1-4",
            "2 / 1", "2 / 1-", "2 / -4", "2 / 1 - 4", "2 / 1--4", "2 / 1-4-5", "2 / 1-4 /", "2 / 1-4 / 1-4",
            "2  3 / 1-4", "2 3  / 1-4", "2 3 /  1-4", "2 3 / 1-4  2-7", " 2 3 / 1-4", "2 3 / 1-4 ", "2 3 / 1-4\n",
            "\n2 3 / 1-4", "2\n3 / 1-4", "2 3\n/ 1-4", "2 3 / 1-4\n2-7", "2,3 / 1-4", "2 3 / 1:4", "2 3 \\ 1-4",
            "2 3 / 4-1", "2 3 / 1-4 7-2", "3 2 / 1-4", "2 2 / 1-4", "2 3 3 / 1-4", "2 5 3 / 1-4", "shop 2 / 1-4",
            TEXT + ".", TEXT + "x", "x" + TEXT, TEXT + "\n\n", TEXT.replace(" ", "\t"), TEXT + TEXT, "2 / 01-4",
        ):
            self.fails(BadText(text), shop_in, text)

    def test_changed_texts(self):
        rng = random.Random("shop texts")
        seen = {True: 0, False: 0}
        for start in (TEXT, "4 / 1-9", "1 2 10 / 1-1 2-20"):
            for text in changed_texts(start, rng, 150):
                expected = shop_by_pattern(text)
                seen[expected is None] += 1
                if expected is None:
                    self.fails(BadText(text), shop_in, text)
                else:
                    self.returns(expected, shop_in, text)
                    self.assertEqual(shop_text(expected), text)
        self.assertGreater(min(seen.values()), 100)


class Settings(Case):
    def test_each_text_and_back(self):
        for shop in small_shops("texts", 60) + TIGHT:
            for setting in settings_of(shop)[:20]:
                text = " ".join(map(str, setting))
                self.returns(text, setting_text, setting)
                self.returns(setting, setting_in, shop, text)
        for shop, one, other in pairs_at_the_bounds("texts", 20, greatest=10 ** 9):
            self.returns(one, setting_in, shop, setting_text(one))
            self.returns(other, setting_in, shop, setting_text(other))

    def test_all_triples_of_the_shop(self):
        for setting in itertools.product(range(1, 10), repeat=3):
            text = " ".join(map(str, setting))
            if setting in SETTINGS:
                self.returns(setting, setting_in, SHOP, text)
            else:
                self.fails(BadText(text), setting_in, SHOP, text)

    def test_texts_that_are_not_so_written(self):
        for text in (
            "", " ", "2", "2 3", "2 3 5 7", "2 3 5 2", "2 3 3", "5 2 3", "2 3 6", "2 3 9", "02 3 5", "2 3 05", "0 3 5",
            "2  3 5", " 2 3 5", "2 3 5 ", "2 3 5\n", "\n2 3 5", "2\n3\n5", "2\t3\t5", "2 3 5.", "2,3,5", "2 3 +5",
            "2 3 -5", "2-3-5", "-", "2 3 \u0665", "2 3 5\u00a0", "(2, 3, 5)", "2 3 5 /", "2 3 50000000000", "two 3 5",
        ):
            self.fails(BadText(text), setting_in, SHOP, text)
        for wrong in NO_NUMBERS:
            for text in (wrong, f"{wrong} 3 5", f"2 {wrong} 5", f"2 3 {wrong}"):
                self.fails(BadText(text), setting_in, SHOP, text)

    def test_a_setting_of_another_shop(self):
        self.returns((2, 3, 8), setting_in, SHOP, "2 3 8")
        self.fails(BadText("2 3 8"), setting_in, ((2, 3, 8), ((1, 9),) * 2), "2 3 8")
        self.fails(BadText("2 3 8"), setting_in, ((2, 3, 8), ((1, 9),) * 4), "2 3 8")
        self.fails(BadText("2 3 8"), setting_in, ((2, 3, 7, 9), ((1, 9),) * 3), "2 3 8")
        self.fails(BadText("2 3 8"), setting_in, ((2, 3, 8), ((1, 9), (1, 9), (1, 7))), "2 3 8")
        self.returns((9999999999,), setting_in, ((9999999999,), ((1, 9999999999),)), "9999999999")

    def test_with_lists(self):
        for shop in MIXED_SHOPS:
            self.returns((2, 3, 5), setting_in, shop, "2 3 5")
        self.returns("2 3 5", setting_text, [2, 3, 5])


class Rows(Case):
    def test_each_text_and_back(self):
        rng = random.Random("row texts")
        for setting in SETTINGS:
            row = list(moves(SHOP, setting))
            self.returns(row, row_in, row_text(row))
        for length in (1, 2, 10, 60, 100):
            row, text = [], []
            for _ in range(length):
                one, other = sorted(rng.sample(range(12), 2))
                size = rng.choice((1, 7, 10 ** 9))
                swap = rng.random() < 0.5
                row.append(("swap", one, other) if swap else ("take", one, size))
                text.append(f"{one}x{other}" if swap else f"{one}<{size}")
            self.returns(" ".join(text), row_text, row)
            self.returns(row, row_in, " ".join(text))

    def test_some(self):
        self.returns("-", row_text, [])
        self.returns([], row_in, "-")
        self.returns("0x1 2<8", row_text, ROW)
        self.returns("0x1 2<8", row_text, (["swap", 0, 1], ("take", 2, 8)))
        self.returns(ROW, row_in, "0x1 2<8")
        # A row is not checked against any shop.
        self.returns([("swap", 0, 9999999999), ("take", 9999999999, 9999999999), ("take", 0, 1)], row_in,
                     "0x9999999999 9999999999<9999999999 0<1")

    def test_wrong_numbers(self):
        for wrong in NO_NUMBERS:
            for text in (f"{wrong}x9", f"0x{wrong}", f"{wrong}<8", f"2<{wrong}", f"0x1 {wrong}<8", f"{wrong}x9 2<8"):
                self.fails(BadText(text), row_in, text)
        self.fails(BadText("2<0"), row_in, "2<0")

    def test_texts_that_are_not_so_written(self):
        for text in (
            "", " ", "--", "- ", " -", "-\n", "- -", "- 0x1", "0x1 -", "0", "01", "x", "<", "0x", "x1", "2<", "<8",
            "1x0", "1x1", "0x0", "2x1 2<8", "0x1  2<8", " 0x1", "0x1 ", "0x1 2<8\n", "0x1\n2<8", "0x1,2<8", "0x12<8",
            "0x1x2", "2<8<9", "0x1<2", "0<1x2", "0 x 1", "2 < 8", "0X1", "2>8", "0*1", "swap 0 1", "take 2 8",
            "0x1\t2<8", "00x1", "0x01", "02<8", "2<08", "+0x1", "0x+1", "-0x1", "0x-1", "2<-8", "0xx1", "2<<8", "0x1;",
        ):
            self.fails(BadText(text), row_in, text)

    def test_changed_texts(self):
        rng = random.Random("changed rows")
        seen = {True: 0, False: 0}
        for start in ("0x1 2<8", "-", "0<1", "10x12", "1x2 0<10 3x4"):
            for text in changed_texts(start, rng, 100):
                expected = row_by_pattern(text)
                seen[expected is None] += 1
                if expected is None:
                    self.fails(BadText(text), row_in, text)
                else:
                    self.returns(expected, row_in, text)
                    self.assertEqual(row_text(expected), text)
        self.assertGreater(min(seen.values()), 100)


class Calls(unittest.TestCase):
    def test_by_name(self):
        self.assertEqual(shop_text(shop=LISTED_SHOP), TEXT)
        self.assertEqual(setting_text(setting=[2, 3, 5]), "2 3 5")
        self.assertEqual(row_text(row=ROW), "0x1 2<8")
        self.assertEqual(shop_in(text=TEXT), SHOP)
        self.assertEqual(setting_in(text="2 3 5", shop=LISTED_SHOP), (2, 3, 5))
        self.assertEqual(row_in(text="0x1 2<8"), ROW)


if __name__ == "__main__":
    unittest.main()
