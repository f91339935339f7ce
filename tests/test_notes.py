import re
import unittest
from copy import deepcopy
from itertools import product

import samples
from tablefolk.errors import FolkError, NoNote, NoTable
from tablefolk.notes import read, shown

SIGNS = [chr(code) for code in range(32, 127) if chr(code) != "%"] + ["\t", "\n"]


def mixed_tables(size):
    """Tables of all sorts of numbers, folks hardly among them."""
    return [[[(a * a * step + b * 7 + step) % size for b in range(size)] for a in range(size)] for step in range(20)]


def tables():
    found = samples.folks() + [table for table, _ in samples.FLAWED]
    for size in (1, 2, 3):
        found += samples.all_tables(size)
    for size in range(4, 13):
        found += mixed_tables(size) + [[[number] * size for _ in range(size)] for number in range(size)]
    return found


def shown_by_hand(rows):
    return "/".join(" ".join(map(str, row)) for row in rows)


def writes_a_table(text):
    number = "(0|[1-9][0-9]*)"
    if re.fullmatch(f"{number}([ /]{number})*", text) is None:
        return False
    rows = [[int(figures) for figures in row.split(" ")] for row in text.split("/")]
    return len(rows) <= 12 and all(len(row) == len(rows) and max(row) < len(rows) for row in rows)


def one_sign_off(text, signs):
    """Every text that one sign left out, put in or put in another's place makes of this."""
    for place in range(len(text) + 1):
        yield text[:place] + text[place + 1:]
        for sign in signs:
            yield text[:place] + sign + text[place:]
            yield text[:place] + sign + text[place + 1:]


class Shown(samples.Refusing):
    def test_known_texts(self):
        self.assertEqual(shown([[0]]), "0")
        self.assertEqual(shown([[0, 1], [1, 0]]), "0 1/1 0")
        self.assertEqual(shown([[1, 1], [0, 1]]), "1 1/0 1")
        self.assertEqual(shown([[0, 1, 2], [1, 2, 0], [2, 0, 1]]), "0 1 2/1 2 0/2 0 1")
        self.assertEqual(shown([[11] * 12] * 12), "/".join(["11" + " 11" * 11] * 12))
        self.assertTrue(shown(samples.circle(12)).startswith("0 1 2 3 4 5 6 7 8 9 10 11/1 2 3 4 5 6 7 8 9 10 11 0/2 "))

    def test_each_table(self):
        for table in tables():
            self.assertEqual(shown(table), shown_by_hand(table))

    def test_no_table_alone_is_refused(self):
        for table in samples.NO_TABLES:
            self.refused(NoTable, lambda: shown(table))
        for table, _ in samples.FLAWED:
            self.assertIs(type(shown(table)), str)


class Read(samples.Refusing):
    def test_known_tables(self):
        self.assertEqual(read("0"), [[0]])
        self.assertEqual(read("0 1/1 0"), [[0, 1], [1, 0]])
        self.assertEqual(read("1 1/0 1"), [[1, 1], [0, 1]])
        self.assertEqual(read("/".join(["11" + " 10" * 11] * 12)), [[11] + [10] * 11] * 12)

    def test_what_is_shown_is_read_to_the_same_table(self):
        for table in tables():
            self.assertEqual(read(shown(table)), table)

    def test_texts_that_write_no_table(self):
        for text in [
            "",
            " ",
            "/",
            "//",
            "00",
            "01",
            "0 01/1 0",
            "00 1/1 0",
            "0 1/1 00",
            "0  1/1 0",
            "0 1/1  0",
            " 0",
            "0 ",
            " 0 1/1 0",
            "0 1/1 0 ",
            "0 1 /1 0",
            "0 1/ 1 0",
            "0 1 / 1 0",
            "/0",
            "0/",
            "/0 1/1 0",
            "0 1/1 0/",
            "0 1//1 0",
            "+0",
            "-0",
            "0 +1/1 0",
            "0 -1/1 0",
            "0 1/-1 0",
            "- 0",
            "\t0",
            "0\t",
            "0\t1/1\t0",
            "0 1\t/1 0",
            "0\n",
            "\n0",
            "0 1/1 0\n",
            "0 1\n1 0",
            "0 1/\n1 0",
            "\n",
            "\t",
            "0 1",
            "0/0",
            "0 1/1",
            "0/1 0",
            "0 1/1 0 0",
            "0 1 0/1 0",
            "0 1/1 0/0 1",
            "0 1 0/1 0 0",
            "0 1 2/1 2 0/2 0",
            "1",
            "2",
            "0 1/1 2",
            "2 1/1 0",
            "0 1/1 10",
            "0 1/1 12",
            "0 1 2/1 2 0/2 0 3",
            "0 1/1 " + "9" * 40,
            "0 1/1 0" + "0" * 39,
            shown_by_hand([[0] * 12] * 11 + [[0] * 11 + [12]]),
            shown_by_hand([[0] * 13] * 13),
            shown_by_hand(samples.circle(13)),
            shown_by_hand(samples.circle(14)),
            shown_by_hand([[0] * 12] * 13),
            shown_by_hand([[0] * 13] * 12),
            "a",
            "O",
            "0 a/1 0",
            "0 1/1 0x",
            "0x0",
            "0b0",
            "0_0",
            "1_0",
            "0.0",
            "0e0",
            "0,1/1,0",
            "0 1|1 0",
            "0 1\\1 0",
            "[[0]]",
            "[0]",
            "'0'",
            "0;",
            "None",
            "~",
        ]:
            self.refused(NoNote, lambda: read(text))

    def test_long_texts(self):
        for text in ["0" * 800, "9" * 800, " " * 800, "/" * 800, "\n" * 800, "\t" * 800, "~" * 800, "0 " * 400]:
            self.refused(NoNote, lambda: read(text))
            self.refused(NoNote, lambda: read(text + text))
        for text in ["0/" * 399 + "0", "0 " * 399 + "0", "0 1/1 0/" * 99 + "0 1/1 0", "9" * 5000]:
            self.refused(NoNote, lambda: read(text))

    def test_every_short_text_of_the_signs_of_two(self):
        notes = {"0"} | {f"{a} {b}/{c} {d}" for a, b, c, d in product("01", repeat=4)}
        for many in range(8):
            for signs in product("01 /", repeat=many):
                text = "".join(signs)
                if text in notes:
                    notes.remove(text)
                    read(text)
                else:
                    self.refused(NoNote, lambda: read(text))
        self.assertEqual(notes, set())

    def test_every_text_of_one_and_two_signs(self):
        for text in SIGNS + ["".join(two) for two in product(SIGNS, repeat=2)]:
            if text != "0":
                self.refused(NoNote, lambda: read(text))

    def test_one_sign_off(self):
        seen = {True: 0, False: 0}
        few = " /0129+-\t\n"
        for table, signs in (
            (samples.circle(2), SIGNS),
            (samples.circle(3), SIGNS),
            (samples.circle(12), few),
            ([[10] * 11 for _ in range(11)], few),
        ):
            for text in one_sign_off(shown(table), signs):
                wanted = writes_a_table(text)
                seen[wanted] += 1
                if wanted:
                    self.assertEqual(shown(read(text)), text)
                else:
                    self.refused(NoNote, lambda: read(text))
        self.assertGreater(min(seen.values()), 500)


class NothingIsKept(unittest.TestCase):
    def test_what_is_handed_in_stays_as_it_was(self):
        for table in samples.folks() + samples.NO_TABLES:
            before = deepcopy(table)
            try:
                shown(table)
            except FolkError:
                pass
            self.assertEqual(table, before)

    def test_no_two_lists_are_one(self):
        for table in samples.folks() + [[[0] * 12 for _ in range(12)]]:
            text = shown(table)
            self.assertTrue(samples.no_two_are_one(table, read(text), read(text)))


if __name__ == "__main__":
    unittest.main()
