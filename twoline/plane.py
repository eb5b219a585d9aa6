"""Points and lines of the plane, reckoned in whole numbers alone."""

from twoline.errors import SamePoint


def greatest_divisor(one, other):
    one = abs(one)
    other = abs(other)
    while other != 0:
        rest = one % other
        one = other
        other = rest
    return one


def fraction(top, bottom):
    divisor = greatest_divisor(top, bottom)
    # A divisor with the bottom's sign leaves a bottom above nought.
    if bottom < 0:
        divisor = -divisor
    return (top // divisor, bottom // divisor)


def line_of(one, other):
    if one == other:
        raise SamePoint("no one line goes through one point twice")
    a = other[1] - one[1]
    b = one[0] - other[0]
    # c is a sum of multiples of a and b, so it need not be asked: what divides both divides c.
    divisor = greatest_divisor(a, b)
    if a < 0 or (a == 0 and b < 0):
        divisor = -divisor
    a = a // divisor
    b = b // divisor
    return (a, b, a * one[0] + b * one[1])


def offset(line, point):
    return line[0] * point[0] + line[1] * point[1] - line[2]


def on(line, point):
    return offset(line, point) == 0


def gap(line, point):
    off = offset(line, point)
    return fraction(off * off, line[0] * line[0] + line[1] * line[1])


def minor(one, other, left, right):
    return one[left] * other[right] - one[right] * other[left]


def crossing(one, other):
    bottom = minor(one, other, 0, 1)
    if bottom == 0:
        # A line has just one told form, so two told lines are the same only as equal tuples.
        return ("same",) if one == other else ("beside",)
    # Cramer's rule: each top has the column of c in the place of the asked one's.
    x = fraction(minor(one, other, 2, 1), bottom)
    y = fraction(minor(one, other, 0, 2), bottom)
    return ("point", x, y)
