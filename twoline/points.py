"""What counts as points together: the check that the other modules share."""

from twoline.errors import BadPoints

FARTHEST = 1000000
FEWEST = 2
MOST = 20


def is_point(point):
    return abs(point[0]) <= FARTHEST and abs(point[1]) <= FARTHEST


def are_points(points):
    if len(points) < FEWEST or len(points) > MOST:
        return False
    if len(set(points)) != len(points):
        return False
    return all([is_point(point) for point in points])


def refuse_bad(points):
    if not are_points(points):
        raise BadPoints("points are 2 to 20 points within 10 ** 6 of nought, none twice")
