import re
import unittest
from itertools import product

from roundsum.errors import NoNote
from roundsum.notes import read, shown
from tests.catalog import (EDGE, FALLING, HEXAGON, HUGE, LEVEL, NO_SHAPES, POINT, SHAPES, SQUARE, TIPPED, TRIANGLE,
                           many_corners, slow_hull, small_shapes)

# Each sign that a text may have.
SIGNS = ["\t", "\n"] + [chr(code) for code in range(ord(" "), ord("~") + 1) if chr(code) != "%"]
NUMBER = "(?:0|-?[1-9][0-9]{0,6})"
NOTE = re.compile(f"{NUMBER},{NUMBER}(?: {NUMBER},{NUMBER})*")
WRITTEN = {
    "2,-3": POINT,
    "0,0": [(0, 0)],
    "-1,2 3,2": LEVEL,
    "4,-1 -2,2": FALLING,
    "0,0 3,0 0,3": TRIANGLE,
    "1,-2 4,1 -2,3": TIPPED,
    "-1,-1 2,-1 2,2 -1,2": SQUARE,
    "1,0 2,0 3,1 2,2 1,2 0,1": HEXAGON,
    "-9999999,-9999999 9999999,-9999999 9999999,9999999 -9999999,9999999": HUGE,
    "10,100": [(10, 100)],
    "-10,-1000 20000,300000": [(-10, -1000), (20000, 300000)],
    "1000000,-1000000 0,5 -1,0": [(1000000, -1000000), (0, 5), (-1, 0)],
}


def joined(corners):
    return " ".join(f"{x},{y}" for x, y in corners)


def slow_read(text):
    if not NOTE.fullmatch(text):
        return None
    corners = [tuple(int(number) for number in corner.split(",")) for corner in text.split(" ")]
    return corners if slow_hull(corners) == corners else None


class Shown(unittest.TestCase):
    def test_points_sticks_and_fields(self):
        for text, corners in WRITTEN.items():
            self.assertEqual(shown(corners), text)

    def test_small_shapes(self):
        for corners in small_shapes():
            self.assertEqual(shown(corners), joined(corners))

    def test_beyond_the_bounds(self):
        self.assertEqual(shown([(-10 ** 7, 0), (10 ** 13, 0)]), "-10000000,0 10000000000000,0")


class Read(unittest.TestCase):
    def assert_refused(self, texts):
        for text in texts:
            with self.subTest(text=text):
                self.assertRaises(NoNote, read, text)

    def test_points_sticks_and_fields(self):
        for text, corners in WRITTEN.items():
            self.assertEqual(read(text), corners)

    def test_what_is_shown_is_read_to_the_same_shape(self):
        for corners in list(SHAPES) + small_shapes() + [many_corners()]:
            self.assertEqual(read(shown(corners)), corners)

    def test_numbers_of_one_to_seven_figures(self):
        numbers = [0, EDGE, -EDGE]
        for figures in range(7):
            numbers = numbers + [10 ** figures, -10 ** figures, 10 ** figures + 7, 3 - 10 ** figures]
        for pair in product(numbers, repeat=2):
            self.assertEqual(read(joined([pair])), [pair])
            self.assertEqual(read(shown([pair])), [pair])

    def test_empty_and_blank(self):
        self.assert_refused(["", " ", "  ", "\n", "\t"])

    def test_blanks(self):
        self.assert_refused([" 1,2", "1,2 ", " 1,2 ", "0,0  1,0", "1, 2", "1 ,2", "1 , 2", "0,0 1,0  0,1", "- 1,2"])

    def test_tabs_and_line_ends(self):
        self.assert_refused(["0,0\t1,0", "0,0\n1,0", "1,2\n", "\n1,2", "1,2\t", "\t1,2", "1,\t2", "1\n,2", "0,0 \n1,0"])

    def test_commas(self):
        self.assert_refused(["1", "1 2", "0,0 1", "0 0,1", "1,2,3", "1,,2", ",1", "1,", ",", "1,2,", ",1,2", "0,0,1,0",
                             "0,0, 1,0", "0,0 ,1,0", "1.2", "1;2", "(1,2)", "[(1, 2)]"])

    def test_noughts_ahead(self):
        self.assert_refused(["01,2", "1,02", "00,0", "0,00", "-01,2", "1,-02", "0,0 01,0", "0000001,2"])

    def test_signs_ahead(self):
        self.assert_refused(["-0,1", "1,-0", "-0,-0", "+1,2", "1,+2", "+0,0", "-,1", "1,-", "-,-", "--1,2", "1,--2",
                             "-+1,2", "1-,2", "1,2-", "-1-,0", "-", "-1", "1-2,3"])

    def test_letters_and_other_signs(self):
        self.assert_refused(["a,b", "1,b", "a,2", "1a,2", "x1,2", "1e3,2", "0x1,2", "1_0,2", "1,2 a", "nought,one",
                             "1,2#", "1.0,2", "1/1,2", "True,1", "None"])

    def test_eight_figures_and_more(self):
        eight = ["10000000", "-10000000", "99999999", "-12345678", "00000001", "-00000001"]
        more = ["123456789", "1" + "0" * 30, "-" + "9" * 5000, "0" * 9, "7" * 100000]
        for number in eight + more:
            self.assert_refused([f"{number},1", f"1,{number}", f"-9999999,-9999999 {number},0"])

    def test_corners_of_no_shape(self):
        for name, corners in NO_SHAPES.items():
            with self.subTest(name):
                self.assertRaises(NoNote, read, joined(corners))

    def test_all_short_texts(self):
        read_well = 0
        for length in range(7):
            for signs in product("012-, ", repeat=length):
                read_well += self.as_slowly_read("".join(signs))
        self.assertGreater(read_well, 100)

    def test_one_sign_more_less_or_other(self):
        for corners in (POINT, FALLING, TRIANGLE, TIPPED, HUGE):
            text = joined(corners)
            for place in range(len(text) + 1):
                self.as_slowly_read(text[:place] + text[place + 1:])
                for sign in SIGNS:
                    self.as_slowly_read(text[:place] + sign + text[place:])
                    self.as_slowly_read(text[:place] + sign + text[place + 1:])

    def as_slowly_read(self, text):
        corners = slow_read(text)
        if corners is None:
            self.assertRaises(NoNote, read, text)
            return 0
        self.assertEqual(read(text), corners, text)
        self.assertEqual(joined(corners), text)
        return 1
