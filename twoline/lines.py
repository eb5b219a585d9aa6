"""The lines of points together, and what is special among them."""

from twoline.plane import gap, line_of, on
from twoline.points import refuse_bad


def lines_of_pairs(points):
    # A dict holds each line once, however many pairs of points tell it.
    found = {}
    for first in range(len(points)):
        for second in range(first + 1, len(points)):
            found[line_of(points[first], points[second])] = True
    return sorted(found)


def places_on(line, points):
    return [place for place in range(len(points)) if on(line, points[place])]


def lines(points):
    refuse_bad(points)
    return [(line, places_on(line, points)) for line in lines_of_pairs(points)]


def two_line(points):
    told = lines(points)
    if len(told) == 1:
        return ("all", told[0][0])
    # Points that do not all lie on one line always have such a line (Sylvester and Gallai).
    twos = [pair for pair in told if len(pair[1]) == 2]
    return ("two", twos[0][0], twos[0][1])


def gaps_off_lines(points):
    found = []
    for pair in lines(points):
        for place in range(len(points)):
            if place not in pair[1]:
                found.append((place, pair[0], gap(pair[0], points[place])))
    return found


def is_smaller(one, other):
    # Both bottoms are above nought, so the products stand to one another as the fractions do.
    return one[0] * other[1] < other[0] * one[1]


def nearest(points):
    # Where all points lie on one line, no point lies off it, and None is left.
    least = None
    for found in gaps_off_lines(points):
        if least is None or is_smaller(found[2], least[2]):
            least = found
    return least
