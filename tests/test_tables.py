import random
import re
import unittest

from laneswap.errors import BadLine, BadText, BadValue, NotOnto, Unknown
from laneswap.spaces import Space
from laneswap.spreads import Spread
from laneswap.tables import Table
from tests.drawing import drawn_spreads
from tests.wrong import STRANGE, Place, check_names, check_wrong, expect_bad, list_of, spread, themselves, word

NO_TEXTS = [None, -1, 0, True, [], ["0"], (), b"0", STRANGE]
SIGNS = "0123456789 +=;abclnorstwe\n"


def text(name, good):
    return Place(name, good, themselves(NO_TEXTS))


def bit_names(table):
    return [f"{name} {bit}" for name, count in table.groups for bit in range(count)]


def told_word(table, told):
    """The word of a text, None if it is none, by another way than the program's."""
    if told == "0":
        return 0
    parts = re.split(r" \+ ", told)
    names = bit_names(table)
    if len(set(parts)) < len(parts) or [part for part in parts if part not in names]:
        return None
    return sum([2 ** names.index(part) for part in parts])


def told_spread(table, told):
    """The slot words and lane words of a text, or the number that BadLine tells."""
    lines = re.split("; ", told) if told else []
    found = {"slot": {}, "lane": {}}
    for at, line in enumerate(lines):
        match = re.fullmatch(r"(slot|lane) (0|[1-9][0-9]*) = (.*)", line)
        if match is None or told_word(table, match[3]) is None or match[2] in found[match[1]]:
            return at
        found[match[1]][match[2]] = told_word(table, match[3])
    for words in found.values():
        if sorted(words, key=lambda number: (len(number), number)) != [str(bit) for bit in range(len(words))]:
            return len(lines)
    return [[words[str(bit)] for bit in range(len(words))] for words in found.values()]


class TableTest(unittest.TestCase):

    def test_groups_and_bits(self):
        table = Table([("row", 1), ("none", 0), ("col", 2)])
        self.assertEqual((table.groups, table.bits), ((("row", 1), ("none", 0), ("col", 2)), 3))
        self.assertEqual([table.part(name) for name in ("row", "none", "col")], [(0, 1), (1, 0), (1, 2)])
        self.assertEqual(table.part(name="col"), (1, 2))
        empty = Table([])
        self.assertEqual((empty.groups, empty.bits, empty.write_word(0), empty.read_word("0")), ((), 0, "0", 0))
        long = Table([("abcdefgh", 60), ("z", 40)])
        self.assertEqual((long.bits, long.part("z")), (100, (60, 40)))

    def test_lists_stand_for_tuples(self):
        self.assertEqual(Table((["row", 1], ("col", 2))), Table([("row", 1), ("col", 2)]))
        self.assertEqual(Table([["row", 1]]).groups, (("row", 1),))

    def test_lists_are_copied(self):
        group = ["row", 1]
        groups = [group, ("col", 2)]
        table = Table(groups)
        self.assertEqual(groups, [["row", 1], ("col", 2)])
        group[0] = "slot"
        groups.append(("more", 1))
        self.assertEqual((table.groups, table.bits), ((("row", 1), ("col", 2)), 3))

    def test_unknown_names(self):
        table = Table([("row", 1), ("col", 2)])
        for name in ("ro", "rows", "a", "abcdefgh", "slot"):
            with self.assertRaises(Unknown) as caught:
                table.part(name)
            self.assertEqual(caught.exception.name, name)

    def test_words(self):
        table = Table([("row", 2), ("col", 11)])
        self.assertEqual(table.write_word(0), "0")
        self.assertEqual(table.write_word(1 + 2 + 4 + 4096), "row 0 + row 1 + col 0 + col 10")
        draw = random.Random(1)
        for _ in range(200):
            each = draw.randrange(2 ** 13)
            written = table.write_word(each)
            self.assertEqual(table.read_word(written), each)
            if each:
                names = written.split(" + ")
                draw.shuffle(names)
                self.assertEqual(table.read_word(" + ".join(names)), each)

    def test_texts_of_no_word(self):
        table = Table([("row", 2), ("col", 11)])
        for told in ("", " ", "00", "1", "0 + row 0", "row 0 + 0", "0 + 0", "row 2", "row 00", "row 01", "col 010",
                     "row 0 + row 0", "row 0+ row 1", "row 0 +row 1", "row 0  + row 1", " row 0", "row 0 ", "row  0",
                     "row 0 + ", " + row 0", "row 0 + + row 1", "Row 0", "row -1", "row +1", "row", "row0", "lane 0",
                     "row 0\n", "row 0;", "row \u0661", "row 0 + row 1 + row 0", "col 11", "row 1_0", "row 0.0"):
            with self.assertRaises(BadText) as caught:
                table.read_word(told)
            self.assertEqual(caught.exception.value, told)

    def test_each_changed_text_of_a_word(self):
        table = Table([("row", 2), ("w", 11)])
        for told in changed_texts("row 1 + w 10"):
            expected = told_word(table, told)
            if expected is None:
                with self.assertRaises(BadText):
                    table.read_word(told)
            else:
                self.assertEqual(table.read_word(told), expected)

    def test_equality(self):
        table = Table([("row", 1), ("col", 2)])
        self.assertEqual(table, Table([("row", 1), ("col", 2)]))
        for other in (Table([("col", 2), ("row", 1)]), Table([("row", 2), ("col", 1)]), Table([("row", 1)]),
                      Table([("row", 1), ("col", 2), ("a", 0)]), None, 3, (("row", 1), ("col", 2)), Space(3, [])):
            self.assertFalse(table == other)
            self.assertTrue(table != other)


def changed_texts(told):
    """The text with one sign put in, left out or exchanged."""
    for at in range(len(told) + 1):
        for sign in SIGNS:
            yield told[:at] + sign + told[at:]
            yield told[:at] + sign + told[at + 1:]
        yield told[:at] + told[at + 1:]


class SpreadTextTest(unittest.TestCase):

    def test_write(self):
        table = Table([("row", 1), ("col", 2)])
        made = Spread(3, [2, 0], [1, 6, 3])
        expected = "slot 0 = col 0; slot 1 = 0; lane 0 = row 0; lane 1 = col 0 + col 1; lane 2 = row 0 + col 0"
        self.assertEqual(table.write(made), expected)
        self.assertEqual(table.read(expected), made)
        self.assertEqual(Table([]).write(Spread(0, [], [])), "")
        self.assertEqual(Table([]).write(Spread(0, [0], [])), "slot 0 = 0")

    def test_lines_and_names_in_any_order(self):
        draw = random.Random(2)
        for made in drawn_spreads(3, 100):
            table = Table([("row", 1), ("col", made.bits - 1)] if made.bits else [("none", 0)])
            self.assertEqual(table.read(table.write(made)), made)
            lines = []
            for line in table.write(made).split("; "):
                place, _, told = line.partition(" = ")
                names = told.split(" + ")
                draw.shuffle(names)
                lines.append(place + " = " + " + ".join(names))
            draw.shuffle(lines)
            if made.slots or made.lanes:
                self.assertEqual(table.read("; ".join(lines)), made)

    def test_ten_lines_and_more(self):
        table = Table([("a", 100)])
        made = Spread(100, [1 << bit for bit in range(70)], [1 << bit for bit in range(60, 100)])
        lines = table.write(made).split("; ")
        self.assertEqual(table.read("; ".join(lines[::-1])), made)

    def test_the_empty_text(self):
        self.assertEqual(Table([]).read(""), Spread(0, [], []))
        with self.assertRaises(NotOnto) as caught:
            Table([("row", 1)]).read("")
        self.assertEqual(caught.exception.word, 1)

    def test_bad_lines(self):
        table = Table([("row", 1), ("col", 2)])
        good = "slot 0 = row 0; lane 0 = col 0"
        for told, at in [
            (" ", 0), (";", 0), ("; ", 0), (good + ";", 1), (good + "; ", 2), (good + " ", 1), ("lane 0", 0),
            ("slot 0 = ", 0), ("slot 0 =", 0), ("slot = row 0", 0), ("row 0 = slot 0", 0), ("slot 00 = row 0", 0),
            ("slot 01 = row 0", 0), ("slot -1 = row 0", 0), ("Slot 0 = row 0", 0), ("slot 0 = row 1", 0),
            ("slot  0 = row 0", 0), ("slot 0  = row 0", 0), ("slot 0 == row 0", 0), ("slot 0 = row 0 = col 0", 0),
            ("slot 0 = 00", 0), ("slot 0 = 0 + row 0", 0), ("slot 0 = row 0 + row 0", 0), ("slot 0=row 0", 0),
            ("slot \u0660 = row 0", 0), ("slot \u00b2 = row 0", 0), ("slot 0\n = row 0", 0), ("lane 0 0 = row 0", 0),
            (good + "; slot 0 = col 1", 2), (good + "; lane 0 = col 1", 2), (good + "; lane 1 = col 2", 2),
            (good + "; slot 0 = col 1; bad", 2), (good + "; lane 5 = 0; lane 5 = 0", 3), (good + ";  lane 1 = col 1", 2),
        ]:
            self.check_line(table, told, at)

    def check_line(self, table, told, at):
        with self.assertRaises(BadLine, msg=told) as caught:
            table.read(told)
        self.assertEqual(caught.exception.at, at, told)

    def test_gaps(self):
        table = Table([("row", 1), ("col", 2)])
        huge = "9" * 5000
        for told, at in [("slot 1 = row 0", 1), ("lane 1 = row 0", 1), ("slot 0 = row 0; lane 1 = col 0", 2),
                         ("slot 0 = row 0; slot 2 = col 0; lane 0 = col 1", 3), ("slot " + huge + " = 0", 1),
                         ("lane 0 = 0; lane 1 = 0; lane 3 = 0; slot 0 = col 0", 4)]:
            self.check_line(table, told, at)

    def test_a_bad_line_is_told_ahead_of_a_gap_and_a_gap_ahead_of_no_place(self):
        table = Table([("row", 1), ("col", 2)])
        self.check_line(table, "slot 1 = row 0; lane 0 = bad", 1)
        self.check_line(table, "slot 1 = row 0; lane 0 = col 0", 2)
        with self.assertRaises(NotOnto) as caught:
            table.read("slot 0 = row 0; lane 0 = row 0 + col 0")
        self.assertEqual(caught.exception.word, 4)

    def test_each_changed_text_of_a_spread(self):
        table = Table([("w", 1), ("l", 2)])
        seen = {"spread": 0, "line": 0, "gap": 0, "not onto": 0}
        for told in changed_texts("slot 0 = w 0; lane 1 = l 1; lane 0 = l 0 + w 0"):
            seen[self.check_text(table, told)] += 1
        for told in changed_texts("slot 0 = 0; lane 0 = w 0; lane 2 = l 0; lane 1 = l 1"):
            seen[self.check_text(table, told)] += 1
        self.assertGreater(min(seen.values()), 2)

    def check_text(self, table, told):
        expected = told_spread(table, told)
        if isinstance(expected, int):
            self.check_line(table, told, expected)
            return "gap" if expected == len(told.split("; ")) else "line"
        found = Space(table.bits, expected[0] + expected[1])
        missing = [entry for entry in range(2 ** table.bits) if entry not in found]
        if missing:
            with self.assertRaises(NotOnto) as caught:
                table.read(told)
            self.assertEqual(caught.exception.word, missing[0])
            return "not onto"
        self.assertEqual(table.read(told), Spread(table.bits, *expected))
        return "spread"


class WrongTest(unittest.TestCase):

    def test_wrong_values(self):
        table = Table([("row", 1), ("col", 2)])
        made = Spread(3, [1], [2, 4])
        no_names = themselves([None, -1, 0, True, "", "Row", "row 0", "abcdefghi", "r0", "\u00e9", "\u00df", b"row",
                               ["row"], ("row",), STRANGE])
        calls = [
            (table.part, [Place("name", "row", no_names)]), (table.write_word, [word("word", 3, 3)]),
            (table.read_word, [text("text", "row 0")]), (table.write, [spread("spread", made)]),
            (table.read, [text("text", table.write(made))]),
        ]
        for function, places in calls:
            check_wrong(self, function, places)
            check_names(self, function, places)

    def test_wrong_groups(self):
        no_groups = [None, -1, True, "ab", "", (), ("row",), ("row", 1, 2), ("row", -1), ("row", True), ("row", "1"),
                     ("row", None), (None, 1), ("", 1), ("Row", 1), ("abcdefghi", 1), (1, "row"), ["row"], ["row", -1],
                     {"row": 1}, {"row", "col"}, ("r w", 1), (["row"], 1), (b"row", 1)]
        place = list_of("groups", [("a", 1), ("b", 0)], no_groups)
        check_wrong(self, Table, [place])
        check_names(self, Table, [place])

    def test_equal_names(self):
        for groups in ([("a", 1), ("a", 1)], [("a", 1), ("b", 2), ("a", 0)], (("a", 1), ["a", 2])):
            expect_bad(self, lambda: Table(groups), groups, groups)
            expect_bad(self, lambda: Table(groups=groups), groups, groups)
        bad = ("b", -1)
        expect_bad(self, lambda: Table([("a", 1), ("a", 1), bad]), bad, bad)

    def test_a_table_with_the_names_of_places(self):
        table = Table([("slot", 1), ("lane", 1)])
        made = Spread(2, [2], [1])
        self.assertEqual(table.write(made), "slot 0 = lane 0; lane 0 = slot 0")
        self.assertEqual(table.read("lane 0 = slot 0; slot 0 = lane 0"), made)

    def test_part_of_a_value_that_is_no_name(self):
        with self.assertRaises(BadValue):
            Table([("row", 1)]).part("row 0")


if __name__ == "__main__":
    unittest.main()
