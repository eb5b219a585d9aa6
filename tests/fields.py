"""Points that several tests share."""

FAR = 10 ** 6


def field(wide, high, step=1, x=0, y=0):
    return [(x + step * across, y + step * up) for across in range(wide) for up in range(high)]


def row(count, x, y, right, up):
    return [(x + right * step, y + up * step) for step in range(count)]


def mixed(points):
    """The points in an order that is neither rising nor falling, the same at each run."""
    return sorted(points, key=lambda point: (point[0] * 7919 + point[1] * 104729 + 31) % 1009)


def subsets(points):
    """All lists of two of the points or more, in the given order."""
    for chosen in range(2 ** len(points)):
        found = [point for place, point in enumerate(points) if chosen >> place & 1]
        if len(found) >= 2:
            yield found


# All points on one line: along both directions, rising, falling, near and far.
ROWS = [
    [(0, 0), (2, 4)],
    [(FAR, FAR), (-FAR, -FAR)],
    [(-FAR, FAR), (FAR, -FAR)],
    [(5, 5), (6, 5)],
    row(3, 0, 0, 1, 1),
    row(20, -4, 7, 1, 0),
    row(20, -4, 7, 0, -3),
    row(20, -FAR, -FAR, 100000, 100000),
    row(20, -FAR, FAR, 105263, -105263),
    row(20, 3, -8, 2, -5),
    mixed(row(19, -9, -9, 3, 2)),
    [(-FAR, 4), (FAR, 4), (0, 4)],
    [(4, FAR), (4, 0), (4, -FAR)],
]

# The corners of a triangle, the middles of its sides and its own middle: 9 lines, only 3 of them with two points.
SEVEN = [(0, 0), (6, 0), (0, 6), (3, 0), (0, 3), (3, 3), (2, 2)]

CORNERS = [(-FAR, -FAR), (-FAR, FAR), (FAR, -FAR), (FAR, FAR)]

# Not all points on one line.
SPREAD = [
    [(0, 0), (1, 0), (0, 1)],
    [(0, 0), (1, 1), (2, 2), (3, 0)],
    [(0, 0), (4, 0), (0, 3), (4, 3)],
    SEVEN,
    mixed(SEVEN),
    [(2 * x - FAR, FAR - 3 * y) for x, y in SEVEN],
    CORNERS,
    CORNERS + [(0, 0)],
    CORNERS + [(0, FAR), (FAR, 0), (0, -FAR), (-FAR, 0), (0, 0)],
    CORNERS + [(FAR - 1, FAR), (FAR, FAR - 1), (-FAR, 1 - FAR), (1, 0), (-7, 12)],
    [(-FAR, -FAR), (FAR, FAR - 1), (FAR, FAR)],
    [(-FAR, -FAR), (0, -1), (FAR, FAR), (1, 1)],
    field(4, 5),
    field(5, 4, 400000, -FAR, -FAR),
    mixed(field(4, 5, 3, -5, -7)),
    field(10, 2),
    field(2, 10),
    mixed(field(3, 6)),
    row(19, 0, 0, 1, 0) + [(5, 1)],
    [(5, 1)] + row(19, 0, 0, 0, 1),
    row(10, 0, 0, 2, 1) + [(8, -3)] + row(9, 20, 10, 2, 1),
    row(19, -FAR, FAR, 111111, -111111) + [(FAR, FAR)],
    row(6, 0, 0, 1, 0) + row(6, 0, 1, 1, 0) + row(6, 0, 2, 1, 0),
    row(5, 0, 0, 2, 3) + row(5, 1, 0, 2, 3) + row(5, 0, 9, -2, 3) + row(5, 1, 9, -2, 3),
    row(6, 1, 0, 1, 0) + row(6, 0, 1, 0, 1) + row(4, 1, 1, 1, 1) + row(4, -1, -1, -1, -1),
    [(step, step * step) for step in range(-10, 10)],
    [(step ** 3, step) for step in range(-10, 10)],
    [(37 * step ** 3 - FAR, FAR - 911 * step ** 2) for step in range(20)],
]

GOOD = ROWS + SPREAD

BAD = [
    [],
    [(0, 0)],
    [(FAR, -FAR)],
    field(7, 3),
    row(21, 0, 0, 1, 0),
    field(5, 5),
    row(400, -7, 9, 3, -1),
    [(0, 0), (0, 0)],
    [(1, 2), (1, 2), (3, 4)],
    [(3, 4), (1, 2), (1, 2)],
    [(1, 2), (3, 4), (5, 7), (1, 2)],
    field(4, 5)[:19] + [(0, 0)],
    [(0, 0)] + field(4, 5)[:19],
    field(4, 5) + [(0, 0)],
    [(3, 3)] * 30,
    [(FAR + 1, 0), (0, 0)],
    [(0, 0), (FAR + 1, 0)],
    [(0, FAR + 1), (0, 0)],
    [(0, 0), (1, 1), (0, FAR + 1)],
    [(-FAR - 1, 0), (0, 0)],
    [(0, 0), (5, 1), (-FAR - 1, 0)],
    [(0, -FAR - 1), (0, 0)],
    [(0, 0), (3, 5), (0, -FAR - 1)],
    [(0, 0), (3, 5), (FAR, -FAR - 1), (1, 1)],
    field(4, 5)[:19] + [(FAR + 1, FAR)],
    [(10 ** 7, 3), (0, 0), (1, 0)],
    [(0, 0), (3, -10 ** 9), (1, 0)],
    [(10 ** 30, 10 ** 30), (-10 ** 30, 0)],
    [(FAR + 1, 0)],
    [(FAR + 1, 0), (FAR + 1, 0)],
]
