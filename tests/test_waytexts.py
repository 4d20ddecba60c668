"""Point 26: ways and templates as texts."""

import copy
import unittest

import helper
from onewithin.errors import NoTemplate, NoText, NoWay
from onewithin.waytexts import read_template, read_way, show_template, show_way

PETERSON = """box whole 2 0
box whole 2 0
box whole 2 0
hand 2 5
write 0 1
write 2 1
look 1 1 5
look 2 0 3
write 0 0
hand 2 5
write 1 1
write 2 0
look 0 1 5
look 2 1 3
write 1 0"""

ONEBIT = """own whole 2 0
hand 0 6
write 0 0
look lower 0 0 2
write 0 1
look lower 0 0 1
look higher 0 0 5
write 0 0"""

SMALL = "box torn 5 4\nbox either 3 0\nhand 0 2\nlook 0 01234 1\nlook 1 - 2\nhand 1 3\nwrite 0 4\nlook 1 02 3\nwrite 0 0"
SMALL_WAY = ((("torn", 5, 4), ("either", 3, 0)), (
    (0, 2, (("look", 0, (0, 1, 2, 3, 4), 1), ("look", 1, (), 2))),
    (1, 3, (("write", 0, 4), ("look", 1, (0, 2), 3), ("write", 0, 0)))))

OWN = "own torn 5 4\nown either 3 0\nhand 1 4\nwrite 0 4\nlook others 1 02 1\nlook higher 0 - 4\nwrite 1 2"
OWN_TEMPLATE = ((("torn", 5, 4), ("either", 3, 0)), (
    1, 4, (("write", 0, 4), ("look", "others", 1, (0, 2), 1), ("look", "higher", 0, (), 4), ("write", 1, 2))))

# For each kind of row those of which one word or sign is another one.
SPOILT = {
    "box whole 2 0": (
        "box", "box whole", "box whole 2", "box whole 2 0 0", "box  whole 2 0", "box whole  2 0", "box whole 2  0",
        " box whole 2 0", "box whole 2 0 ", "box whole 2 0;", "Box whole 2 0", "BOX whole 2 0", "boxes whole 2 0",
        "own whole 2 0", "box Whole 2 0", "box WHOLE 2 0", "box wholes 2 0", "box  2 0", "box others 2 0", "box 0 2 0",
        "box whole 02 0", "box whole 2 00", "box whole -2 0", "box whole 2 -0", "box whole +2 0", "box whole 2 -",
        "box whole two 0", "box whole 2.0 0", "box whole 0x2 0", "box whole 2 0_0", "box\twhole 2 0", "box whole 2 0\r",
        "box whole 2,0", "box whole \u0662 0", "box whole 2 \u00b2", "box whole 2 \uff10", "box\u00a0whole 2 0"),
    "hand 0 1": (
        "hand", "hand 0", "hand 0 1 1", "hand  0 1", "hand 0  1", " hand 0 1", "hand 0 1 ", "Hand 0 1", "HAND 0 1",
        "hands 0 1", "hand 00 1", "hand 0 01", "hand -0 1", "hand 0 -1", "hand - 1", "hand 0 one", "hand x 1", "0 1",
        "hand 0 \u0661"),
    "write 0 1": (
        "write", "write 0", "write 0 1 1", "write  0 1", "write 0  1", " write 0 1", "write 0 1 ", "Write 0 1",
        "writes 0 1", "wrote 0 1", "write 00 1", "write 0 01", "write 0 -1", "write 0 -", "write - 1", "write x 1",
        "write 0 1\t", "write 0 1.0"),
}
WAY_LOOKS = (
    "look", "look 0", "look 0 1", "look 0 1 1 1", "look  0 1 1", "look 0  1 1", "look 0 1  1", "look 0  1",
    " look 0 1 1", "look 0 1 1 ", "Look 0 1 1", "LOOK 0 1 1", "looks 0 1 1", "look 00 1 1", "look 0 1 01", "look 0 1 -",
    "look - 1 1", "look 0 -- 1", "look 0 -1 1", "look 0 1- 1", "look 0 0,1 1", "look 0 (0) 1", "look 0 none 1",
    "look others 0 1 1", "look x 1 1", "look 0 \u0661 1", "look 0 +1 1")
TEMPLATE_LOOKS = (
    "look", "look others", "look others 0", "look others 0 1", "look others 0 1 1 1", "look  others 0 1 1",
    "look others  0 1 1", "look others 0  1 1", "look others 0 1  1", " look others 0 1 1", "look others 0 1 1 ",
    "Look others 0 1 1", "look Others 0 1 1", "look OTHERS 0 1 1", "look other 0 1 1", "look all 0 1 1",
    "look whole 0 1 1", "look 0 0 1 1", "look 0 1 1", "look others 00 1 1", "look others 0 1 01", "look others - 1 1",
    "look others whole 1 1", "look others 0 -- 1", "look others 0 -1 1", "look others 0 1 -", "look others 0 x 1")


class Texts(unittest.TestCase):
    def refuses(self, read, text, part):
        with self.assertRaises(NoText) as caught:
            read(text)
        self.assertEqual(caught.exception.part, part, text)
        self.assertIs(type(caught.exception.part), type(part))

    def same(self, one, other):
        """Both alike, and of the same kinds all through."""
        self.assertEqual(repr(one), repr(other))


class Written(Texts):
    def test_ways(self):
        self.assertEqual(show_way(helper.peterson()), PETERSON)
        self.assertEqual(show_way(SMALL_WAY), SMALL)
        self.assertEqual(show_way(((("whole", 2, 0),), (helper.plain_hand(1),))), "box whole 2 0\nhand 0 1\nlook 0 01 1")

    def test_two_figures(self):
        way = ((("whole", 2, 0),) * 12, ((9, 16, (("write", 11, 1),) * 15 + (("look", 10, (0,), 16),)),))
        rows = show_way(way).split("\n")
        self.assertEqual((rows[12], rows[13], rows[-1]), ("hand 9 16", "write 11 1", "look 10 0 16"))
        self.same(read_way("\n".join(rows)), way)

    def test_templates(self):
        self.assertEqual(show_template(helper.onebit_template()), ONEBIT)
        self.assertEqual(show_template(OWN_TEMPLATE), OWN)
        self.assertEqual(show_template(helper.flags_template("torn")),
                         "own torn 2 0\nhand 1 3\nwrite 0 1\nlook others 0 0 2\nwrite 0 0")

    def test_read_again(self):
        self.same(read_way(PETERSON), helper.peterson())
        self.same(read_way(SMALL), SMALL_WAY)
        self.same(read_template(ONEBIT), helper.onebit_template())
        self.same(read_template(OWN), OWN_TEMPLATE)
        ways = [helper.random_way(number, 4, 6) for number in range(500)]
        for way in ways + [helper.dekker(), helper.flags(4), helper.vast(), helper.just_3001(), helper.long_run()]:
            text = show_way(way)
            self.assertLessEqual(set(text), set("abcdefghijklmnopqrstuvwxyz0123456789- \n"))
            self.same(read_way(text), way)
            self.assertEqual(show_way(read_way(text)), text)
        for number in range(500):
            template = helper.random_template(number)
            text = show_template(template)
            self.same(read_template(text), template)
            self.assertEqual(show_template(read_template(text)), text)

    def test_what_cant_be_shown(self):
        for odd in helper.ODD + (list(helper.peterson()), PETERSON, helper.onebit_template()):
            self.assertRaises(NoWay, show_way, odd)
        for odd in helper.ODD + (list(helper.onebit_template()), ONEBIT, helper.peterson()):
            self.assertRaises(NoTemplate, show_template, odd)

    def test_nothing_changes(self):
        for show, thing in ((show_way, helper.dekker()), (show_template, helper.onebit_template())):
            kept = copy.deepcopy(thing)
            self.assertEqual(show(thing), show(thing))
            self.assertEqual(thing, kept)


class Rows(Texts):
    """Rows that aren't written as a way's or a template's, in whatever place."""

    def check(self, read, text, odd):
        """The odd row in the place of each one, and between them, is the first that is refused."""
        rows = text.split("\n")
        for at in range(len(rows) + 1):
            for behind in (rows[at:], rows[at + 1:], rows[at:] + [odd], [""] + rows[at:]):
                self.refuses(read, "\n".join(rows[:at] + [odd] + behind), at)

    def test_ways(self):
        for right, spoilt in SPOILT.items():
            for odd in spoilt:
                self.check(read_way, SMALL, odd)
        for odd in WAY_LOOKS + ("", " ", "-", "0", "way", "own whole 2 0"):
            self.check(read_way, SMALL, odd)

    def test_templates(self):
        for right, spoilt in SPOILT.items():
            for odd in spoilt:
                odd = odd.replace("own", "bin").replace("box", "own")
                self.check(read_template, OWN, odd)
        for odd in TEMPLATE_LOOKS + ("", " ", "-", "0", "box whole 2 0"):
            self.check(read_template, OWN, odd)

    def test_line_ends(self):
        self.refuses(read_way, PETERSON + "\n", 15)
        self.refuses(read_way, "\n" + PETERSON, 0)
        self.refuses(read_way, PETERSON.replace("\n", "\n\n", 1), 1)
        self.refuses(read_way, PETERSON.replace("\n", "\r\n"), 0)
        self.refuses(read_way, PETERSON.replace("\n", "; "), 0)
        self.refuses(read_way, PETERSON.replace("\n", " "), 0)
        self.refuses(read_way, PETERSON.replace("\n", "\r"), 0)
        self.refuses(read_template, ONEBIT + "\n", 8)
        for read in (read_way, read_template):
            self.refuses(read, "", 0)
            self.refuses(read, "\n", 0)
            self.refuses(read, " ", 0)

    def test_a_row_ahead_of_what_comes_to_be_none(self):
        # What is written well comes to no way, but the row that isn't is told first.
        self.refuses(read_way, "write 0 0\nwrite 0 0\nbox whole 9 9\nhands 0 1", 3)
        self.refuses(read_way, "box whole 9 9\nhand 0 1\nwrite 7 7\nhand 0 01", 3)
        self.refuses(read_template, "hand 0 1\nown whole 9 9\nlook others 0 0 0\nlook all 0 0 0", 3)

    def test_each_reads_its_own(self):
        self.refuses(read_way, ONEBIT, 0)
        self.refuses(read_template, PETERSON, 0)
        self.refuses(read_way, PETERSON.replace("look 0 1 5", "look others 0 1 5"), 12)
        self.refuses(read_template, ONEBIT.replace("look higher 0 0 5", "look 0 0 5"), 6)


class ComesToNone(Texts):
    def test_ways(self):
        box, hand, rows = "box whole 2 0", "hand 0 2", ["look 0 0 1", "write 0 1"]
        self.assertEqual(len(read_way("\n".join([box, hand] + rows))[1]), 1)
        for text in (
                [box], [hand], rows, [box, hand], [hand] + rows, [box] + rows, [hand, box] + rows, rows + [hand, box],
                [box, hand] + rows + [box], [box] + rows[:1] + [hand] + rows, [box, hand, hand] + rows,
                [box] * 13 + [hand] + rows, [box] + ([hand] + rows) * 5, [box, "hand 0 1"] + rows * 9,
                ["box whole 6 0", hand] + rows, ["box whole 1 0", hand] + rows, ["box whole 2 2", hand] + rows,
                ["box whole 0 0", hand] + rows, [box, "hand 2 2"] + rows, [box, "hand 0 0"] + rows,
                [box, "hand 0 3"] + rows, [box, "hand 9 99"] + rows, [box, hand, "look 1 0 1", "write 0 1"],
                [box, hand, "look 0 0 3", "write 0 1"], [box, hand, "look 0 0 0", "write 0 1"],
                [box, hand, "look 0 2 1", "write 0 1"], [box, hand, "look 0 10 1", "write 0 1"],
                [box, hand, "look 0 00 1", "write 0 1"], [box, hand, "look 0 0123456789 1", "write 0 1"],
                [box, hand, "look 0 0 1", "write 0 2"], [box, hand, "look 0 0 1", "write 1 1"],
                [box, hand, "look 0 0 1", "look 0 0 1"], ["box torn 2 0"] + ([hand] + rows) * 2):
            self.refuses(read_way, "\n".join(text), len(text))

    def test_templates(self):
        own, hand, rows = "own whole 2 0", "hand 0 2", ["look others 0 0 1", "write 0 1"]
        self.assertEqual(len(read_template("\n".join([own, hand] + rows))), 2)
        for text in (
                [own], [hand], rows, [own, hand], [hand] + rows, [own] + rows, [hand, own] + rows, [own, hand] + rows + [own],
                [own] * 3 + [hand] + rows, [own] + ([hand] + rows) * 2, [own, hand, hand] + rows,
                [own, "hand 0 1"] + rows, [own, hand, rows[1], rows[0]], [own, "hand 0 1"] + ["write 0 0"] * 9,
                [own, "hand 0 7"] + rows[:1] * 6 + rows[1:], ["own whole 6 0", hand] + rows,
                ["own whole 2 2", hand] + rows, [own, "hand 2 2"] + rows, [own, hand, "look others 1 0 1", rows[1]],
                [own, hand, "look lower 0 0 3", rows[1]], [own, hand, "look lower 0 2 1", rows[1]],
                [own, hand, "look lower 0 10 1", rows[1]], [own, hand, rows[0], "write 1 0"]):
            self.refuses(read_template, "\n".join(text), len(text))

    def test_long_numbers_are_written_well(self):
        for figures in (2, 5, 30, 1000, 4299, 4301, 9000):
            number = "1" * figures
            self.refuses(read_way, f"box whole {number} 0\nhand 0 1\nwrite 0 0", 3)
            self.refuses(read_way, f"box whole 2 0\nhand 0 {number}\nwrite 0 0", 3)
            self.refuses(read_way, f"box whole 2 0\nhand 0 1\nwrite 0 {number}", 3)
            self.refuses(read_way, f"box whole 2 0\nhand 0 1\nlook 0 {number} 1", 3)
            self.refuses(read_template, f"own whole 2 0\nhand 0 1\nwrite {number} 0", 3)
            self.refuses(read_way, f"box whole 0{number} 0\nhand 0 1\nwrite 0 0", 0)

    def test_numbers_whose_first_figures_would_do(self):
        self.refuses(read_way, "box whole 20 0\nhand 0 1\nwrite 0 0", 3)
        self.refuses(read_way, "box whole 2 10\nhand 0 1\nwrite 0 0", 3)
        self.refuses(read_way, "box whole 2 0\nhand 0 10000\nwrite 0 0", 3)


class NoTexts(Texts):
    def test_what_is_no_text(self):
        for odd in helper.ODD:
            if not isinstance(odd, str):
                self.refuses(read_way, odd, None)
                self.refuses(read_template, odd, None)
        for odd in (PETERSON.encode(), PETERSON.split("\n"), tuple(PETERSON), helper.peterson(), 3, {"text": PETERSON}):
            self.refuses(read_way, odd, None)
            self.refuses(read_template, odd, None)

    def test_odd_texts(self):
        for odd in helper.ODD:
            if isinstance(odd, str):
                self.refuses(read_way, odd, 0)
                self.refuses(read_template, odd, 0)


if __name__ == "__main__":
    unittest.main()
