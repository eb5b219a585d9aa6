import unittest
from fractions import Fraction
from math import gcd

from twoline import errors, plane
from twoline.errors import BadPoints, BadText, LineError, SamePoint
from twoline.plane import crossing, gap, line_of, on

FAR = 10 ** 6
SMALL = [(x, y) for x in range(-3, 4) for y in range(-3, 4)]
CORNERS = [(x, y) for x in (-FAR, 0, FAR) for y in (-FAR, 0, FAR)]
ODD_ONES = [(FAR, FAR - 1), (-FAR, 1 - FAR), (999983, -FAR), (1, 0), (-7, 12)]
BEYOND = [(10 ** 7, -3), (-10 ** 9, 10 ** 9 + 1), (10 ** 30, 10 ** 30 + 7)]
POINTS = CORNERS + ODD_ONES + BEYOND


def pairs(points):
    return [(one, other) for one in points for other in points if one != other]


def told_lines(points):
    return sorted({line_of(one, other) for one, other in pairs(points)})


def as_told(value):
    return (value.numerator, value.denominator)


class Checks(unittest.TestCase):
    def check_wholes(self, told, length):
        self.assertIs(type(told), tuple)
        self.assertEqual(len(told), length)
        for number in told:
            self.assertIs(type(number), int)

    def check_fraction(self, told):
        self.check_wholes(told, 2)
        self.assertGreater(told[1], 0)
        self.assertEqual(gcd(told[0], told[1]), 1)
        if told[0] == 0:
            self.assertEqual(told, (0, 1))


class LineOfTests(Checks):
    def check_line(self, one, other):
        line = line_of(one, other)
        self.check_wholes(line, 3)
        a, b, c = line
        self.assertEqual(gcd(a, b, c), 1)
        self.assertTrue(a > 0 or (a == 0 and b > 0), line)
        for x, y in (one, other):
            self.assertEqual(a * x + b * y, c)
        self.assertEqual(line_of(other, one), line)

    def test_the_documents_example(self):
        self.assertEqual(line_of((0, 0), (2, 4)), (2, -1, 0))
        self.assertEqual(line_of((2, 4), (0, 0)), (2, -1, 0))

    def test_along_the_first_direction(self):
        self.assertEqual(line_of((0, 3), (5, 3)), (0, 1, 3))
        self.assertEqual(line_of((5, -3), (0, -3)), (0, 1, -3))
        self.assertEqual(line_of((-2, 0), (7, 0)), (0, 1, 0))
        self.assertEqual(line_of((FAR, -FAR), (-FAR, -FAR)), (0, 1, -FAR))

    def test_along_the_second_direction(self):
        self.assertEqual(line_of((3, 0), (3, 5)), (1, 0, 3))
        self.assertEqual(line_of((-3, 5), (-3, 0)), (1, 0, -3))
        self.assertEqual(line_of((0, 9), (0, -2)), (1, 0, 0))
        self.assertEqual(line_of((-FAR, FAR), (-FAR, -FAR)), (1, 0, -FAR))

    def test_rising_and_falling(self):
        self.assertEqual(line_of((1, 1), (4, 3)), (2, -3, -1))
        self.assertEqual(line_of((1, 3), (4, 1)), (2, 3, 11))
        self.assertEqual(line_of((-FAR, -FAR), (FAR, FAR)), (1, -1, 0))
        self.assertEqual(line_of((-FAR, FAR), (FAR, -FAR)), (1, 1, 0))
        self.assertEqual(line_of((-FAR, -FAR), (FAR, FAR - 1)), (1999999, -2000000, FAR))

    def test_a_divisor_of_two_of_the_numbers_alone_stays(self):
        self.assertEqual(line_of((0, 0), (3, 6)), (2, -1, 0))
        self.assertEqual(line_of((0, 1), (1, -1)), (2, 1, 1))
        self.assertEqual(line_of((0, 2), (1, 0)), (2, 1, 2))
        self.assertEqual(line_of((3, 0), (0, 2)), (2, 3, 6))

    def test_all_pairs_of_small_points(self):
        for one, other in pairs(SMALL):
            self.check_line(one, other)

    def test_all_pairs_of_far_points(self):
        for one, other in pairs(POINTS):
            self.check_line(one, other)

    def test_any_two_points_of_a_line_tell_it(self):
        row = [(1 + 3 * step, -2 - 5 * step) for step in range(-4, 5)]
        self.assertEqual(told_lines(row), [(5, 3, -1)])

    def test_one_point_twice_is_refused(self):
        for point in SMALL + POINTS:
            with self.assertRaises(SamePoint) as caught:
                line_of(point, (point[0], point[1]))
            self.assertIsInstance(caught.exception, LineError)
            self.assertIsInstance(caught.exception, ValueError)
            self.assertNotIsInstance(caught.exception, (BadPoints, BadText))

    def test_points_alike_in_one_number_are_not_refused(self):
        self.assertEqual(line_of((4, 4), (4, 5)), (1, 0, 4))
        self.assertEqual(line_of((4, 4), (5, 4)), (0, 1, 4))
        self.assertEqual(line_of((4, 5), (5, 4)), (1, 1, 9))
        self.assertEqual(line_of((4, -4), (-4, 4)), (1, 1, 0))


class OnTests(Checks):
    def test_ordinary(self):
        self.assertIs(on((2, -1, 0), (1, 2)), True)
        self.assertIs(on((2, -1, 0), (-3, -6)), True)
        self.assertIs(on((2, -1, 0), (2, 1)), False)
        self.assertIs(on((2, 3, 11), (1, 3)), True)
        self.assertIs(on((2, 3, 11), (-1, -3)), False)

    def test_along_the_directions(self):
        self.assertIs(on((0, 1, -3), (FAR, -3)), True)
        self.assertIs(on((0, 1, -3), (-3, FAR)), False)
        self.assertIs(on((1, 0, 3), (3, -FAR)), True)
        self.assertIs(on((1, 0, 3), (-FAR, 3)), False)

    def test_just_beside_a_far_line(self):
        line = line_of((-FAR, -FAR), (FAR, FAR - 1))
        self.assertIs(on(line, (-FAR, -FAR)), True)
        self.assertIs(on(line, (FAR, FAR - 1)), True)
        self.assertIs(on(line, (FAR, FAR)), False)
        self.assertIs(on(line, (FAR - 1, FAR - 2)), False)
        self.assertIs(on(line, (0, 0)), False)

    def test_small_points_on_small_lines(self):
        for line in told_lines(SMALL):
            for x, y in SMALL:
                self.assertIs(on(line, (x, y)), line[0] * x + line[1] * y == line[2])

    def test_both_points_lie_on_their_line(self):
        for one, other in pairs(POINTS):
            self.assertIs(on(line_of(one, other), one), True)
            self.assertIs(on(line_of(one, other), other), True)


class GapTests(Checks):
    def test_ordinary(self):
        self.assertEqual(gap((2, -1, 0), (1, 0)), (4, 5))
        self.assertEqual(gap((2, -1, 0), (-1, 0)), (4, 5))
        self.assertEqual(gap((3, 4, 0), (1, 2)), (121, 25))
        self.assertEqual(gap((1, 0, 3), (-2, 9)), (25, 1))
        self.assertEqual(gap((0, 1, -3), (9, 4)), (49, 1))

    def test_without_a_common_divisor(self):
        self.assertEqual(gap((1, 1, 0), (1, 1)), (2, 1))
        self.assertEqual(gap((1, 1, 0), (1, 0)), (1, 2))
        self.assertEqual(gap((3, 1, 0), (0, 4)), (8, 5))
        self.assertEqual(gap((3, 4, 0), (3, 4)), (25, 1))

    def test_nought(self):
        self.assertEqual(gap((2, -1, 0), (1, 2)), (0, 1))
        self.assertEqual(gap((2, 3, 11), (4, 1)), (0, 1))
        self.assertEqual(gap((0, 1, FAR), (-FAR, FAR)), (0, 1))

    def test_corners(self):
        self.assertEqual(gap((1, 1, -2 * FAR), (FAR, FAR)), (8 * FAR * FAR, 1))
        line = line_of((-FAR, -FAR), (FAR, FAR - 1))
        self.assertEqual(gap(line, (FAR, FAR)), (4000000000000, 7999996000001))

    def check_gaps(self, lines, points):
        for a, b, c in lines:
            for x, y in points:
                told = gap((a, b, c), (x, y))
                self.check_fraction(told)
                meant = Fraction((a * x + b * y - c) ** 2, a * a + b * b)
                self.assertEqual(told, as_told(meant))
                self.assertEqual(told == (0, 1), on((a, b, c), (x, y)))

    def test_small_points_and_lines(self):
        self.check_gaps(told_lines(SMALL), SMALL)

    def test_far_points_and_lines(self):
        self.check_gaps(told_lines(POINTS), POINTS)


class CrossingTests(Checks):
    def check_point(self, one, other, x, y):
        self.assertEqual(crossing(one, other), ("point", x, y))
        self.assertEqual(crossing(other, one), ("point", x, y))

    def test_same(self):
        for line in told_lines(SMALL) + told_lines(POINTS):
            self.assertEqual(crossing(line, tuple(list(line))), ("same",))

    def test_beside(self):
        beside = (
            ((0, 1, 0), (0, 1, 1)),
            ((1, 0, -3), (1, 0, 3)),
            ((2, -1, 0), (2, -1, 1)),
            ((2, 3, 11), (2, 3, -11)),
            ((1, 1, 2 * FAR), (1, 1, 2 * FAR - 1)),
        )
        for one, other in beside:
            self.assertEqual(crossing(one, other), ("beside",))
            self.assertEqual(crossing(other, one), ("beside",))

    def test_whole_points(self):
        self.check_point((1, 0, 3), (0, 1, -4), (3, 1), (-4, 1))
        self.check_point((2, -1, 0), (1, 1, 3), (1, 1), (2, 1))
        self.check_point((2, -1, 0), (1, 1, -3), (-1, 1), (-2, 1))
        self.check_point((1, 1, 0), (1, -1, -2 * FAR), (-FAR, 1), (FAR, 1))

    def test_the_origin(self):
        self.check_point((2, -1, 0), (1, 1, 0), (0, 1), (0, 1))
        self.check_point((1, 0, 0), (0, 1, 0), (0, 1), (0, 1))

    def test_broken_points(self):
        self.check_point((1, 1, 1), (1, -1, 0), (1, 2), (1, 2))
        self.check_point((1, 1, -1), (1, -1, 0), (-1, 2), (-1, 2))
        self.check_point((2, 3, 11), (1, -1, 0), (11, 5), (11, 5))
        self.check_point((3, 1, 0), (1, -1, 2), (1, 2), (-3, 2))
        self.check_point((2, 1, 1), (0, 1, 0), (1, 2), (0, 1))
        self.check_point((1, 2, 1), (1, 0, 0), (0, 1), (1, 2))
        self.check_point((2, 1, 4), (2, -1, 2), (3, 2), (1, 1))

    def check_two(self, one, other):
        told = crossing(one, other)
        self.assertIs(type(told), tuple)
        self.assertEqual(crossing(other, one), told)
        if one == other:
            self.assertEqual(told, ("same",))
        elif one[:2] == other[:2]:
            self.assertEqual(told, ("beside",))
        else:
            self.assertEqual(len(told), 3)
            self.assertEqual(told[0], "point")
            self.check_fraction(told[1])
            self.check_fraction(told[2])
            for a, b, c in (one, other):
                self.assertEqual(a * Fraction(*told[1]) + b * Fraction(*told[2]), c)

    def test_all_two_lines_of_near_points(self):
        found = told_lines([point for point in SMALL if max(point) < 2 and min(point) > -3])
        for one in found:
            for other in found:
                self.check_two(one, other)

    def test_all_two_lines_of_far_points(self):
        found = told_lines(CORNERS[:5] + ODD_ONES + BEYOND)
        for one in found:
            for other in found:
                self.check_two(one, other)

    def test_the_lines_of_a_point_cross_in_it(self):
        for point in CORNERS + ODD_ONES:
            one = line_of(point, (17, -5))
            other = line_of((-11, 23), point)
            self.check_point(one, other, (point[0], 1), (point[1], 1))


class NothingKeptTests(unittest.TestCase):
    def answers(self):
        told = []
        for one, other in pairs(ODD_ONES):
            line = line_of(one, other)
            told.append((line, on(line, (1, 1)), gap(line, (1, 1)), crossing(line, (2, -1, 0))))
        return told

    def test_the_same_is_told_again_and_the_modules_stay_as_they_were(self):
        before = [dict(vars(module)) for module in (errors, plane)]
        first = self.answers()
        with self.assertRaises(SamePoint):
            line_of((1, 1), (1, 1))
        self.assertEqual(self.answers(), first)
        self.assertEqual([dict(vars(module)) for module in (errors, plane)], before)


if __name__ == "__main__":
    unittest.main()
