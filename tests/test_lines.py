import unittest
from fractions import Fraction
from itertools import combinations

from fields import BAD, FAR, GOOD, ROWS, SEVEN, SPREAD, field, mixed, row, subsets
from twoline import errors, lines as lines_module, plane, points as points_module
from twoline.errors import BadPoints, BadText, LineError, SamePoint
from twoline.lines import lines, nearest, two_line
from twoline.plane import gap, line_of

ALL_THREE = (lines, two_line, nearest)


def in_row(one, other, third):
    """Whether three points lie on one line, reckoned without any told line."""
    right = (other[0] - one[0]) * (third[1] - one[1])
    return right == (other[1] - one[1]) * (third[0] - one[0])


def all_in_row(points):
    return all(in_row(points[0], points[1], point) for point in points)


def plain_count(points):
    """Each set of places on one line, with the two first of them, by a walk over all pairs of places."""
    found = {}
    for one, other in combinations(range(len(points)), 2):
        places = [place for place in range(len(points)) if in_row(points[one], points[other], points[place])]
        found[tuple(places)] = places
    return list(found.values())


def plain_gap(line, point):
    a, b, c = line
    return Fraction((a * point[0] + b * point[1] - c) ** 2, a * a + b * b)


class Checks(unittest.TestCase):
    def check_line(self, line):
        self.assertIs(type(line), tuple)
        self.assertEqual([type(number) for number in line], [int, int, int])

    def check_lines(self, points):
        told = lines(points)
        self.assertIs(type(told), list)
        for pair in told:
            self.assertIs(type(pair), tuple)
            self.assertEqual(len(pair), 2)
            self.check_line(pair[0])
            self.assertIs(type(pair[1]), list)
            self.assertEqual([type(place) for place in pair[1]], [int] * len(pair[1]))
        meant = [(line_of(points[places[0]], points[places[1]]), places) for places in plain_count(points)]
        self.assertEqual(told, sorted(meant))

    def check_rising_and_together_once(self, points):
        told = lines(points)
        for one, other in zip(told, told[1:]):
            self.assertLess(one[0], other[0])
        together = []
        for line, places in told:
            self.assertGreaterEqual(len(places), 2)
            self.assertEqual(places, sorted(set(places)))
            together.extend(combinations(places, 2))
        self.assertEqual(sorted(together), list(combinations(range(len(points)), 2)))

    def check_two_line(self, points):
        told = two_line(points)
        self.assertIs(type(told), tuple)
        self.check_line(told[1])
        a, b, c = told[1]
        on_it = [place for place, point in enumerate(points) if a * point[0] + b * point[1] == c]
        if all_in_row(points):
            self.assertEqual(told, ("all", line_of(points[0], points[1])))
            self.assertEqual(on_it, list(range(len(points))))
        else:
            self.assertEqual(len(told), 3)
            self.assertEqual(told[0], "two")
            self.assertIs(type(told[2]), list)
            self.assertEqual(len(told[2]), 2)
            self.assertEqual(told[2], on_it)
            self.assertEqual(told[1], line_of(points[on_it[0]], points[on_it[1]]))

    def check_nearest(self, points):
        told = nearest(points)
        if all_in_row(points):
            self.assertIsNone(told)
            return
        self.assertIs(type(told), tuple)
        self.assertEqual(len(told), 3)
        place, line, least = told
        self.assertIs(type(place), int)
        self.check_line(line)
        self.assertIn(place, range(len(points)))
        self.assertEqual(least, gap(line, points[place]))
        of_line = [places for other, places in lines(points) if other == line]
        self.assertEqual(len(of_line), 1)
        self.assertEqual(len(of_line[0]), 2)
        self.assertNotIn(place, of_line[0])
        gaps = [plain_gap(other, point) for other, places in lines(points) for point in points]
        self.assertEqual(Fraction(*least), min(found for found in gaps if found != 0))

    def check_all(self, points):
        self.check_lines(points)
        self.check_rising_and_together_once(points)
        self.check_two_line(points)
        self.check_nearest(points)
        if not all_in_row(points):
            self.assertGreaterEqual(len(lines(points)), len(points))


class AllAnswersTests(Checks):
    def test_shared_points(self):
        for points in GOOD:
            with self.subTest(points=points):
                self.check_all(points)
                self.check_all(points[::-1])
                self.check_all(mixed(points))

    def test_all_choices_from_a_small_field(self):
        for points in subsets(field(3, 3, 1, -1, -1)):
            self.check_all(points)

    def test_all_choices_from_seven_points(self):
        for points in subsets(mixed(SEVEN)):
            self.check_all(points)

    def test_all_choices_from_a_crooked_field(self):
        crooked = [(FAR, -FAR), (-FAR, FAR), (0, 0), (1, 0), (1 - FAR, FAR), (FAR, FAR), (-500000, 500000), (3, -3)]
        for points in subsets(crooked):
            self.check_all(points)

    def test_the_shared_points_are_what_their_names_say(self):
        for points in ROWS:
            self.assertTrue(all_in_row(points))
        for points in SPREAD:
            self.assertFalse(all_in_row(points))
        self.assertEqual(max(len(points) for points in ROWS), 20)
        self.assertEqual(max(len(points) for points in SPREAD), 20)


class LinesTests(Checks):
    def test_two_points(self):
        self.assertEqual(lines([(0, 0), (2, 4)]), [((2, -1, 0), [0, 1])])
        self.assertEqual(lines([(2, 4), (0, 0)]), [((2, -1, 0), [0, 1])])
        self.assertEqual(lines([(FAR, FAR), (-FAR, FAR)]), [((0, 1, FAR), [0, 1])])
        self.assertEqual(lines([(-FAR, FAR), (-FAR, -FAR)]), [((1, 0, -FAR), [0, 1])])

    def test_three_points(self):
        meant = [((0, 1, 0), [0, 1]), ((1, 0, 0), [0, 2]), ((1, 1, 1), [1, 2])]
        self.assertEqual(lines([(0, 0), (1, 0), (0, 1)]), meant)

    def test_several_on_one_line_beside_others(self):
        meant = [
            ((0, 1, 0), [0, 3]),
            ((1, -1, 0), [0, 1, 2]),
            ((1, 2, 3), [1, 3]),
            ((2, 1, 6), [2, 3]),
        ]
        self.assertEqual(lines([(0, 0), (1, 1), (2, 2), (3, 0)]), meant)

    def test_places_are_those_of_the_list(self):
        meant = [
            ((0, 1, 0), [1, 2]),
            ((1, -1, 0), [0, 2, 3]),
            ((1, 2, 3), [1, 3]),
            ((2, 1, 6), [0, 1]),
        ]
        self.assertEqual(lines([(2, 2), (3, 0), (0, 0), (1, 1)]), meant)

    def test_rising_below_nought_too(self):
        told = [line for line, places in lines([(0, 0), (2, 0), (0, -2), (2, -2)])]
        meant = [(0, 1, -2), (0, 1, 0), (1, -1, 2), (1, 0, 0), (1, 0, 2), (1, 1, 0)]
        self.assertEqual(told, meant)

    def test_all_on_one_line(self):
        self.assertEqual(lines(row(20, -4, 7, 1, 0)), [((0, 1, 7), list(range(20)))])
        self.assertEqual(lines(row(20, -4, 7, 0, -3)), [((1, 0, -4), list(range(20)))])
        self.assertEqual(lines(row(20, 3, -8, 2, -5)), [((5, 2, -1), list(range(20)))])

    def test_all_but_one_on_one_line(self):
        told = lines(row(19, 0, 0, 1, 0) + [(5, 1)])
        self.assertEqual(len(told), 20)
        self.assertEqual(told[0], ((0, 1, 0), list(range(19))))
        for line, places in told[1:]:
            self.assertEqual(len(places), 2)
            self.assertEqual(places[1], 19)

    def test_counts(self):
        self.assertEqual(len(lines(SEVEN)), 9)
        self.assertEqual(len(lines(field(3, 3))), 20)
        self.assertEqual(len(lines([(step, step * step) for step in range(20)])), 190)

    def test_a_point_just_beside_a_far_line(self):
        told = lines([(-FAR, -FAR), (FAR, FAR - 1), (FAR, FAR)])
        self.assertEqual(told, [((1, -1, 0), [0, 2]), ((1, 0, FAR), [1, 2]), ((1999999, -2000000, FAR), [0, 1])])


class TwoLineTests(Checks):
    def test_all(self):
        self.assertEqual(two_line([(0, 0), (2, 4)]), ("all", (2, -1, 0)))
        self.assertEqual(two_line([(0, 0), (2, 4), (-1, -2)]), ("all", (2, -1, 0)))
        self.assertEqual(two_line(row(20, -4, 7, 1, 0)), ("all", (0, 1, 7)))
        self.assertEqual(two_line(row(20, -4, 7, 0, -3)), ("all", (1, 0, -4)))

    def test_just_one_choice_of_several(self):
        choices = [("two", (0, 1, 3), [4, 5]), ("two", (1, 0, 3), [3, 5]), ("two", (1, 1, 3), [3, 4])]
        self.assertIn(two_line(SEVEN), choices)

    def test_all_but_one_on_one_line(self):
        told = two_line(row(10, 0, 0, 2, 1) + [(8, -3)] + row(9, 20, 10, 2, 1))
        self.assertEqual(told[0], "two")
        self.assertIn(10, told[2])


class NearestTests(Checks):
    def test_none_where_all_lie_on_one_line(self):
        for points in ROWS:
            self.assertIsNone(nearest(points))

    def test_one_least(self):
        self.assertEqual(nearest([(0, 0), (4, 0), (1, 1)]), (2, (0, 1, 0), (1, 1)))
        self.assertEqual(nearest([(1, 1), (4, 0), (0, 0)]), (0, (0, 1, 0), (1, 1)))
        self.assertEqual(nearest([(0, 0), (10, 0), (5, 1), (3, 40)]), (2, (0, 1, 0), (1, 1)))

    def test_a_line_of_three_is_not_the_nearest(self):
        told = nearest([(-4, 0), (0, 0), (4, 0), (0, 1)])
        self.assertIn(told, [(1, (1, -4, -4), (16, 17)), (1, (1, 4, 4), (16, 17))])

    def test_two_gaps_close_to_one_another(self):
        # The other gap, of the last point, is 4000000000000 by 7999996000001: just above a half.
        far = [(-FAR, -FAR), (FAR, FAR - 1), (FAR, FAR)]
        self.assertEqual(nearest(far), (1, (1, -1, 0), (1, 2)))
        self.assertEqual(nearest(far[::-1]), (1, (1, -1, 0), (1, 2)))


class RefusalTests(unittest.TestCase):
    def test_bad_points_are_refused(self):
        for points in BAD:
            for asked in ALL_THREE:
                with self.subTest(points=points, asked=asked.__name__):
                    before = list(points)
                    with self.assertRaises(BadPoints) as caught:
                        asked(points)
                    self.assertIsInstance(caught.exception, LineError)
                    self.assertIsInstance(caught.exception, ValueError)
                    self.assertNotIsInstance(caught.exception, (SamePoint, BadText))
                    self.assertEqual(points, before)

    def test_the_last_that_are_let_through(self):
        for points in ([(FAR, FAR), (-FAR, -FAR)], [(0, 0), (0, 1)], field(4, 5), row(20, 0, 0, 1, 1)):
            for asked in ALL_THREE:
                asked(points)


class NothingKeptTests(unittest.TestCase):
    def test_what_is_handed_in_stays_as_it_was(self):
        for points in GOOD:
            for asked in ALL_THREE:
                before = list(points)
                asked(points)
                self.assertEqual(points, before)

    def test_what_is_handed_in_may_be_changed_later(self):
        for asked in ALL_THREE:
            points = list(SEVEN)
            told = asked(points)
            meant = asked(list(SEVEN))
            points[0] = (50, 50)
            points.pop()
            self.assertEqual(told, meant)
            self.assertEqual(asked(list(SEVEN)), meant)

    def test_a_changed_list_is_answered_anew(self):
        points = [(0, 0), (1, 1), (2, 2)]
        self.assertEqual(two_line(points), ("all", (1, -1, 0)))
        self.assertIsNone(nearest(points))
        points[2] = (2, 0)
        self.assertEqual(two_line(points)[0], "two")
        self.assertEqual(len(lines(points)), 3)
        self.assertEqual(nearest(points)[2], (1, 1))

    def test_told_lists_are_the_askers_own(self):
        for points in GOOD:
            first = lines(points)
            meant = [(line, list(places)) for line, places in first]
            for line, places in first:
                places.append(99)
                places[0] = -1
            second = lines(points)
            self.assertEqual(second, meant)
            first.clear()
            self.assertEqual(second, meant)
            self.assertEqual(lines(points), meant)

    def test_told_places_of_two_line_are_the_askers_own(self):
        for points in SPREAD:
            told = two_line(points)
            meant = (told[0], told[1], list(told[2]))
            told[2].clear()
            self.assertEqual(two_line(points), meant)

    def test_no_two_told_lists_are_one(self):
        for points in GOOD:
            told = lines(points) + lines(points)
            self.assertEqual(len({id(places) for line, places in told}), len(told))

    def test_the_modules_stay_as_they_were(self):
        modules = (errors, plane, points_module, lines_module)
        before = [dict(vars(module)) for module in modules]
        for points in GOOD:
            for asked in ALL_THREE:
                asked(points)
        self.assertEqual([dict(vars(module)) for module in modules], before)


if __name__ == "__main__":
    unittest.main()
