import random
import unittest

from common import SETTINGS, SHOP, WIDE, Case, pairs_at_the_bounds, shops_with_settings
from spindlefit.counting import row_count
from spindlefit.errors import BadLine
from spindlefit.floor import Floor
from spindlefit.reach import can_come
from spindlefit.sheet import answers
from spindlefit.texts import row_text, setting_text, shop_text
from test_floor import Model, random_call

FIRST = "shop 2 3 5 7 8 / 1-4 2-7 3-9"
HEAD = FIRST + "\nset 2 3 5"
# Every kind of line, as it may be written.
LINES = [
    "swap 0 1", "swap 1 0", "swap 1 1", "take 2 8", "take 0 9999999999", "run 0x1", "run 0x1 2<8", "run -", "lock 0",
    "unlock 9999999999", "widen 0 1 9", "widen 0 9 1", "deliver 6", "install 1 9 7", "install 9 1 1", "undo",
    "setting", "rack", "possible", "to 2", "to 2 3 5", "to 9 9 9 9 9 9 9 9 9 9 9 9", "hold 0", "hold 77", "rows 1",
    "rows 2 3 5", "rows 1 2 3 4",
]
BAD_LINES = [
    # No word, or one that does not exist.
    "", " ", "-", "0", "shop", "set", FIRST, "set 2 3 5", "Swap 0 1", "SWAP 0 1", "swaps 0 1", "move 0 1", "locked",
    "operations", "log", "twin", "as_of 0", "fewest_to 2 3 5", "error", "done", "#", "\t", "undo\r", "setting\t",
    # Too few or too many numbers.
    "swap", "swap 0", "swap 0 1 2", "take", "take 0", "take 0 7 8", "run", "lock", "lock 0 1", "unlock", "unlock 0 1",
    "widen", "widen 0", "widen 0 1", "widen 0 1 2 3", "deliver", "deliver 6 7", "install", "install 1", "install 1 9",
    "install 1 9 7 7", "undo 1", "setting 0", "rack 0", "possible 0", "to", "hold", "hold 0 1", "rows",
    # A blank too many.
    " swap 0 1", "swap  0 1", "swap 0  1", "swap 0 1 ", "swap ", "undo ", " undo", "rack ", "setting ", "possible ",
    "run ", "run  0x1", "run 0x1 ", "run 0x1  2<8", "run - ", "run  -", "to ", "to  2 3 5", "to 2 3  5", "to 2 3 5 ",
    "rows ", "rows  2", "rows 2 ", "hold ", "hold  0", "hold 0 ", "lock ", "deliver ", "deliver  6", "install 1  9 7",
    # Numbers that are not so written.
    "swap 00 1", "swap 0 01", "swap -1 0", "swap 0 +1", "swap a b", "swap 0x1", "swap 0 1.", "swap 12345678901 0",
    "take 0 0", "take 0 07", "take 0 -7", "take 0 10000000000", "lock 00", "lock -1", "unlock 01", "widen 0 0 9",
    "widen 0 1 0", "widen 00 1 9", "deliver 0", "deliver 06", "deliver -6", "install 0 9 7", "install 1 0 7",
    "install 1 9 0", "install 1-9 7", "to 0", "to 2 3 0", "to 02 3 5", "to 2,3,5", "to -", "hold 00", "hold -1",
    "rows 0", "rows 2 3 05", "rows -", "hold \u0660", "to \u0662 3 5", "lock \u00b2", "undo\u00a0",
    # Rows that are not so written.
    "run 1x0", "run 0x0", "run 0x1,2<8", "run 2<0", "run swap 0 1", "run - 0x1", "run 0", "run --", "run 00x1",
]


class Lines(Case):
    def says(self, lines, expected):
        """The answers to the lines behind those of the shop."""
        self.returns(expected, answers, "\n".join([HEAD] + lines))

    def test_each_kind_of_line(self):
        self.says(["swap 1 0", "setting"], ["2 3", "3 2 5"])
        self.says(["swap 0 1", "setting"], ["3 2", "3 2 5"])
        self.says(["take 2 8", "setting", "rack"], ["5", "2 3 8", "5 7"])
        self.says(["run 2<8 0x1", "setting", "undo", "setting"], ["done", "3 2 8", "yes", "2 3 5"])
        self.says(["run -", "undo", "undo"], ["done", "yes", "no"])
        self.says(["lock 2", "lock 0", "unlock 2", "possible"], ["done", "done", "done", "1x2 1<7 2<7 2<8"])
        self.says(["widen 0 1 9", "possible"], ["done", "0x1 1x2 0<7 0<8 1<7 2<7 2<8"])
        self.says(["deliver 6", "rack", "deliver 1", "rack"], ["done", "6 7 8", "done", "1 6 7 8"])
        self.says(["install 1 9 7", "install 8 8 8", "setting", "rack"], ["3", "4", "2 3 5 7 8", "-"])
        self.says(["undo"], ["no"])
        self.says(["possible", "lock 0", "lock 1", "lock 2", "possible"],
                  ["0x1 1x2 1<7 2<7 2<8", "done", "done", "done", "-"])
        self.says(["to 2 3 5", "to 3 2 8", "to 2 3 8", "to 3 5 7"], ["0", "2", "1", "3"])
        self.says(["hold 0", "hold 1", "hold 2", "lock 0", "lock 2", "hold 0", "hold 1"],
                  ["2 3", "2 3 5 7", "3 5 7 8", "done", "done", "2", "3 7"])
        self.says(["rows 2 3 5", "rows 3 2 8", "rows 3 5 7", "lock 0", "rows 3 5 7"], ["1", "2", "7", "done", "7"])

    def test_no_line(self):
        self.returns([], answers, HEAD)

    def test_each_error(self):
        self.says(["swap 0 3", "swap 3 3", "take 3 7", "run 0x3", "lock 3", "unlock 3", "widen 3 1 9", "hold 3"],
                  ["error NoMachine"] * 8)
        self.says(["swap 0 0", "lock 0", "swap 0 0"], ["error SameMachine", "done", "error SameMachine"])
        self.says(["lock 0", "swap 1 0", "take 0 7", "run 0x1", "lock 0", "to 3 2 5", "hold 0", "rows 3 2 5"],
                  ["done"] + ["error Locked"] * 5 + ["2", "1"])
        self.says(["unlock 0", "lock 0", "unlock 0", "unlock 0"],
                  ["error NotLocked", "done", "done", "error NotLocked"])
        self.says(["take 0 4", "take 0 5", "run 0<9", "install 1 9 2", "install 1 9 1"], ["error NotInRack"] * 5)
        self.says(["swap 0 2", "take 0 7", "run 2<7 1<8", "widen 0 3 9", "widen 0 9 1"], ["error Unfit"] * 5)
        self.says(["install 1 6 7", "install 9 1 7"], ["error Unfit"] * 2)
        self.says(["deliver 5", "deliver 6", "deliver 6"], ["error Duplicate", "done", "error Duplicate"])
        self.says(["to 2", "to 2 3", "to 2 3 5 7", "to 2 3 3", "to 5 2 3", "to 9 9 9"], ["error OtherShop"] * 6)
        self.says(["rows 2", "rows 2 3", "rows 2 3 5 7", "rows 2 3 3", "rows 5 2 3", "rows 9 9 9"],
                  ["error OtherShop"] * 6)
        self.says(["lock 1", "to 9 9 9", "to 3 2 5", "rows 9 9 9"],
                  ["done", "error OtherShop", "error Locked", "error OtherShop"])

    def test_full(self):
        head = "shop " + shop_text(WIDE) + "\nset 1 2 3 4 5 6 7 8\n"
        self.returns(["error Full", "error Duplicate", "error Full", "error Full"], answers,
                     head + "deliver 13\ndeliver 12\ninstall 1 12 12\ninstall 12 1 99")

    def test_a_line_that_fails_changes_nothing(self):
        self.says(["run 2<8 0<7", "setting", "undo", "swap 0 1", "take 0 7", "undo", "setting", "undo"],
                  ["error Unfit", "2 3 5", "no", "3 2", "error Unfit", "yes", "2 3 5", "no"])

    def test_every_written_line_is_answered(self):
        for line in LINES:
            answer = answers(HEAD + "\n" + line)
            self.assertEqual((type(answer), len(answer), type(answer[0])), (list, 1, str))
        self.assertEqual(len(answers("\n".join([HEAD] + LINES * 2))), len(LINES) * 2)

    def test_only_one_machine(self):
        self.returns(["-", "-", "4", "error SameMachine", "4", "0", "1"], answers,
                     "shop 4 / 1-9\nset 4\nrack\npossible\nsetting\nswap 0 0\nhold 0\nto 4\nrows 4")


class BadLines(Case):
    def test_the_first_line(self):
        for first in (
            "", " ", "shop", "shop ", "shop 2", "shop 2 3 5 7 8", "shop  2 / 1-4", " shop 2 / 1-4", "shop 2 / 1-4 ",
            "Shop 2 / 1-4", "2 / 1-4", "shop2 / 1-4", "shop 2 /", "shop 3 2 / 1-4", "shop 2 / 4-1", "shop 02 / 1-4",
            "set 2", "undo", "shop 2 / 1-4\r", "shop\t2 / 1-4", "shop 0 / 1-4", "shops 2 / 1-4", "shop / 1-4",
        ):
            for rest in ("", "\nset 2", "\nset 2\nrack", "\n", "\nnonsense\nnonsense"):
                self.fails(BadLine(0), answers, first + rest)
        self.fails(BadLine(0), answers, "\n" + HEAD)

    def test_the_second_line(self):
        self.fails(BadLine(1), answers, FIRST)
        for second in (
            "", " ", "set", "set ", "set 2", "set 2 3", "set 2 3 5 7", "set 5 2 3", "set 2 3 3", "set  2 3 5",
            " set 2 3 5", "set 2 3 5 ", "set 2  3 5", "set 02 3 5", "set 2 3 6", "Set 2 3 5", "2 3 5", "setting 2 3 5",
            "set2 3 5", "setting", "undo", FIRST, "set 2 3 5\r", "set\t2 3 5",
        ):
            for rest in ("", "\nrack", "\n", "\nnonsense"):
                self.fails(BadLine(1), answers, FIRST + "\n" + second + rest)

    def test_the_others(self):
        for line in BAD_LINES:
            self.fails(BadLine(2), answers, f"{HEAD}\n{line}")
            self.fails(BadLine(3), answers, f"{HEAD}\nundo\n{line}\nrack")
            self.fails(BadLine(4), answers, f"{HEAD}\nswap 0 9\nundo\n{line}\nnonsense\n{line}")

    def test_a_line_feed_at_the_end(self):
        self.fails(BadLine(2), answers, HEAD + "\n")
        self.fails(BadLine(3), answers, HEAD + "\nrack\n")
        self.fails(BadLine(1), answers, FIRST + "\n")

    def test_sixty_lines(self):
        text = "\n".join([HEAD] + ["undo"] * 57)
        self.returns(["no"] * 57, answers, text)
        self.fails(BadLine(59), answers, text + "\nundo 1")

    def test_by_name(self):
        self.assertEqual(answers(text=HEAD + "\nrack"), ["7 8"])


def written(name, given):
    if name == "run":
        return "run " + row_text(given[0])
    return " ".join([name, *map(str, given)])


def answer_of(seen, name):
    """The answer to an operation, from its outcome."""
    kind, value, *_ = seen
    if kind == "raised":
        return "error " + value.__name__
    value = value[1]
    if isinstance(value, list):
        return " ".join(str(number) for _, number in value)
    return {"None": "done", "True": "yes", "False": "no"}.get(str(value), str(value))


class RandomSheets(unittest.TestCase):
    def questions(self, model, rng):
        """Lines with questions, and their answers by the other modules."""
        shop, setting, locked = model.shop(), tuple(model.held), tuple(sorted(model.locked))
        floor = Floor(shop, setting)
        for machine in locked:
            floor.lock(machine)
        machine = rng.randrange(len(setting))
        pairs = [
            ("setting", setting_text(setting)), ("rack", setting_text(floor.rack()) or "-"),
            ("possible", row_text(floor.possible())),
            (f"hold {machine}", setting_text(can_come(shop, setting, machine, locked))),
        ]
        for exchange in floor.possible()[:1]:
            floor.run([exchange])
        goal = floor.setting()
        pairs.append(("to " + setting_text(goal), "0" if goal == setting else "1"))
        pairs.append(("rows " + setting_text(goal), str(row_count(shop, setting, goal))))
        return rng.sample(pairs, 2)

    def play(self, shop, setting, rng):
        lines, expected = ["shop " + shop_text(shop), "set " + setting_text(setting)], []
        model = Model(shop, setting)
        while len(lines) < 57:
            name, *given = random_call(rng, model)
            # A sheet has no texts of numbers below 0.
            if "-1" not in str(given):
                lines.append(written(name, given))
                expected.append(answer_of(model.call(name, *given), name))
                for line, answer in self.questions(model, rng):
                    lines.append(line)
                    expected.append(answer)
        self.assertEqual(answers("\n".join(lines)), expected)
        return expected

    def test_many(self):
        rng = random.Random("sheet")
        starts = [(SHOP, rng.choice(SETTINGS)) for _ in range(20)]
        starts += [(shop, one) for shop, one, _ in pairs_at_the_bounds("sheet", 10)]
        starts += [(shop, rng.choice(found)) for shop, found in shops_with_settings("sheet", 40)]
        seen = set()
        for shop, setting in starts:
            seen.update(self.play(shop, setting, rng))
        for name in "Unfit SameMachine Duplicate NoMachine NotInRack Locked NotLocked Full".split():
            self.assertIn("error " + name, seen)


if __name__ == "__main__":
    unittest.main()
