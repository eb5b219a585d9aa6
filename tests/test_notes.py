import re
import unittest
from itertools import product

from fields import BAD, FAR, GOOD, field, row
from twoline import notes
from twoline.errors import BadPoints, BadText, LineError, SamePoint
from twoline.notes import read, shown

SIGNS = ["\t", "\n"] + [chr(code) for code in range(32, 127) if chr(code) != "%"]
NUMBER = r"(?:0|-?[1-9][0-9]{0,6})"
WRITTEN = re.compile(rf"{NUMBER},{NUMBER}(?: {NUMBER},{NUMBER})*")

# One point of seventeen signs there is; each other of the twenty has sixteen.
LONGEST = [(-FAR, -FAR)] + row(10, -FAR, 1 - FAR, 0, 1) + row(9, 1 - FAR, -FAR, 1, 0)

NO_BLANKS_RIGHT = [
    " 0,0 1,1", "0,0 1,1 ", "0,0  1,1", "0,0   1,1", " ", "  ", "0,0 ", " 0,0", "0,01,1",
    "0, 0 1,1", "0 ,0 1,1", "0,0 1, 1", "0,0 1 ,1", "0,0 - 1,1", "0,0 1 0,1",
]
NO_COMMAS_RIGHT = [
    "0 0 1,1", "0,0 11", "0,,0 1,1", ",0,0 1,1", "0,0, 1,1", "0,0 1,1,", "0,0 ,1,1", "0,0 1,1,1", "0,0,1,1",
    "0,0,0 1,1", "0, 1,1", ",0 1,1", "0,0 1,", "0,0 ,1", "0,0 ,", ",", ", ,", "0,0,1 1", "0;0 1;1", "0.0 1.1",
]
NO_POINTS = [
    "", "0,0", "3,-4", "0", "0,0 0,0", "1,2 1,2 3,4", "3,4 1,2 1,2", "1,2 3,4 5,7 1,2",
    " ".join(f"{x},{y}" for x, y in row(21, 0, 0, 1, 0)),
    " ".join(f"{x},{y}" for x, y in field(5, 5)),
    " ".join(f"{x},{y}" for x, y in field(4, 5)[:19] + [(0, 0)]),
    " ".join(f"{x},{y}" for x, y in field(4, 5) + [(0, 0)]),
]
NO_NUMBERS = [
    "-0", "00", "01", "-01", "-00", "000", "0000001", "+1", "+0", "-", "--1", "-+1", "+-1", "1-", "1-1", "- 1", "",
    "10000000", "-10000000", "12345678", "00000001", "01000000", "99999999999999999999", "1000001", "-1000001",
    "9999999", "-9999999", "1e3", "1.0", "1.", ".1", "1_0", "0x1", "a", "x", "O", "l", "1a", "a1", "(1", "1)",
    "'1'", "\"1\"", "\t1", "1\t", "\n1", "1\n", "1\t1", "\t", "\n", "~", "!", "1!", "/", ":", "1/1", "1:", "1;",
    "9" * 60, "-" * 9, "1" * 400,
]
NO_SEPARATORS_RIGHT = [
    "0,0\t1,1", "0,0\n1,1", "0,0 1,1\n", "0,0 1,1\t", "\n0,0 1,1", "\t0,0 1,1", "0,0 \n1,1", "0,0\n 1,1", "\n",
    "0,0;1,1", "0,0|1,1", "0,0/1,1", "[0,0 1,1]", "(0,0) (1,1)", "(0, 0), (1, 1)", "[(0, 0), (1, 1)]", "0,0_1,1",
]
# Beyond what a text may be: still no text of points.
BEYOND = [
    "0,0 1,1\r", "0,0 1,1\r\n", "0,0 1,%", " " * 700, "1,2 " * 300, "1,2" + " 3,4" * 300,
    "\u0661,0 1,1", "\u00b2,0 1,1", "0,0\u00a01,1",
]


def plain_read(text):
    """The list that a text is read to, or None where it is to be refused."""
    if WRITTEN.fullmatch(text) is None:
        return None
    points = [tuple(int(number) for number in word.split(",")) for word in text.split(" ")]
    near = all(-FAR <= number <= FAR for point in points for number in point)
    return points if near and 2 <= len(points) <= 20 and len(set(points)) == len(points) else None


class Checks(unittest.TestCase):
    def check_refused(self, text):
        with self.assertRaises(BadText, msg=repr(text)) as caught:
            read(text)
        self.assertIsInstance(caught.exception, LineError)
        self.assertIsInstance(caught.exception, ValueError)
        self.assertNotIsInstance(caught.exception, (SamePoint, BadPoints))

    def check_read(self, text, points):
        told = read(text)
        self.assertIs(type(told), list)
        for point in told:
            self.assertIs(type(point), tuple)
            self.assertEqual([type(number) for number in point], [int, int])
        self.assertEqual(told, points)
        self.assertEqual(shown(told), text)

    def check_as_plainly(self, text):
        meant = plain_read(text)
        if meant is None:
            self.check_refused(text)
        else:
            self.check_read(text, meant)


class ShownTests(Checks):
    def test_the_documents_example(self):
        self.assertEqual(shown([(3, -4), (0, 0)]), "3,-4 0,0")

    def test_ordinary(self):
        self.assertEqual(shown([(0, 0), (3, -4)]), "0,0 3,-4")
        self.assertEqual(shown([(-1, 10), (100, -205), (7, 7)]), "-1,10 100,-205 7,7")

    def test_numbers_of_one_and_of_seven_figures(self):
        self.assertEqual(shown([(FAR, -FAR), (-1, 9)]), "1000000,-1000000 -1,9")
        self.assertEqual(shown([(-FAR, FAR), (999999, -999999)]), "-1000000,1000000 999999,-999999")

    def test_the_longest(self):
        text = shown(LONGEST)
        self.assertEqual(len(LONGEST), 20)
        self.assertEqual(len(text), 17 + 19 * 16 + 19)
        self.assertTrue(text.startswith("-1000000,-1000000 -1000000,-999999 "))

    def test_shared_points(self):
        for points in GOOD:
            told = shown(points)
            self.assertIs(type(told), str)
            self.assertEqual(told, " ".join(f"{x},{y}" for x, y in points))

    def test_bad_points_are_refused(self):
        for points in BAD:
            with self.subTest(points=points):
                before = list(points)
                with self.assertRaises(BadPoints) as caught:
                    shown(points)
                self.assertIsInstance(caught.exception, LineError)
                self.assertIsInstance(caught.exception, ValueError)
                self.assertNotIsInstance(caught.exception, (SamePoint, BadText))
                self.assertEqual(points, before)


class ReadTests(Checks):
    def test_the_documents_example(self):
        self.check_read("3,-4 0,0", [(3, -4), (0, 0)])

    def test_ordinary(self):
        self.check_read("0,0 0,1", [(0, 0), (0, 1)])
        self.check_read("-1,10 100,-205 7,7", [(-1, 10), (100, -205), (7, 7)])
        self.check_read("1,2 2,1 -1,-2 -2,-1", [(1, 2), (2, 1), (-1, -2), (-2, -1)])

    def test_numbers_of_one_and_of_seven_figures(self):
        self.check_read("1000000,-1000000 -1,9", [(FAR, -FAR), (-1, 9)])
        self.check_read("-1000000,1000000 0,-9", [(-FAR, FAR), (0, -9)])

    def test_each_count_of_figures(self):
        for number in (1, 12, 123, 1234, 12345, 123456, 999999, FAR, 10, 100, 1000, 10000, 100000, 909090):
            self.check_read(f"{number},{-number} {-number},{number}", [(number, -number), (-number, number)])

    def test_each_number_near_nought(self):
        for number in range(-120, 121):
            self.check_read(f"{number},500 500,{number}", [(number, 500), (500, number)])

    def test_the_longest(self):
        text = " ".join(f"{x},{y}" for x, y in LONGEST)
        self.assertEqual(len(text), 340)
        self.check_read(text, LONGEST)
        self.check_refused(text + " 0,0")

    def test_written_and_read_again(self):
        for points in GOOD:
            self.check_read(shown(points), points)


class RefusedTextTests(Checks):
    def test_blanks(self):
        for text in NO_BLANKS_RIGHT:
            self.check_refused(text)

    def test_commas(self):
        for text in NO_COMMAS_RIGHT:
            self.check_refused(text)

    def test_no_points(self):
        for text in NO_POINTS:
            self.check_refused(text)

    def test_numbers(self):
        for number in NO_NUMBERS:
            for text in (f"{number},5 6,7", f"5,{number} 6,7", f"5,6 {number},7", f"5,6 7,{number}"):
                self.check_refused(text)

    def test_tabs_line_ends_and_other_signs_between(self):
        for text in NO_SEPARATORS_RIGHT:
            self.check_refused(text)

    def test_beyond_what_a_text_may_be(self):
        for text in BEYOND:
            self.check_refused(text)

    def test_one_point_of_any_single_sign(self):
        for sign in SIGNS:
            self.check_refused(sign)
            self.check_as_plainly(f"{sign},5 6,7")
            self.check_as_plainly(f"5,6{sign}7,8")


class HeldAgainstPlainReadTests(Checks):
    def test_one_sign_more_less_or_other(self):
        for text in ("3,-4 0,0", "1000000,-1000000 -1,10 999999,0"):
            for place in range(len(text) + 1):
                self.check_as_plainly(text[:place] + text[place + 1:])
                for sign in SIGNS:
                    self.check_as_plainly(text[:place] + sign + text[place:])
                    self.check_as_plainly(text[:place] + sign + text[place + 1:])

    def test_all_short_texts_of_few_signs(self):
        good = 0
        for signs in product("01-, ", repeat=7):
            text = "".join(signs)
            meant = plain_read(text)
            try:
                told = read(text)
            except BadText:
                told = None
            self.assertEqual(told, meant, text)
            good += meant is not None
        # Two unlike ones of the four points with x and y from 0 and 1, in each order.
        self.assertEqual(good, 12)


class NothingKeptTests(unittest.TestCase):
    def test_what_is_handed_in_stays_as_it_was(self):
        for points in GOOD:
            before = list(points)
            shown(points)
            self.assertEqual(points, before)

    def test_told_lists_are_the_askers_own(self):
        first = read("3,-4 0,0")
        second = read("3,-4 0,0")
        self.assertIsNot(first, second)
        first[0] = (9, 9)
        first.append((1, 1))
        self.assertEqual(second, [(3, -4), (0, 0)])
        self.assertEqual(read("3,-4 0,0"), [(3, -4), (0, 0)])

    def test_a_changed_list_is_shown_anew(self):
        points = [(3, -4), (0, 0)]
        told = shown(points)
        points[0] = (1, 1)
        self.assertEqual(told, "3,-4 0,0")
        self.assertEqual(shown(points), "1,1 0,0")

    def test_the_module_stays_as_it_was(self):
        before = dict(vars(notes))
        for points in GOOD:
            read(shown(points))
        self.assertEqual(dict(vars(notes)), before)


if __name__ == "__main__":
    unittest.main()
