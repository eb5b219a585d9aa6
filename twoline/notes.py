"""Points written as a text, and read from one."""

from twoline.errors import BadText
from twoline.points import are_points, refuse_bad

FIGURES = "0123456789"
MOST_FIGURES = 7


def shown_point(point):
    return str(point[0]) + "," + str(point[1])


def shown(points):
    refuse_bad(points)
    return " ".join([shown_point(point) for point in points])


def is_number(word):
    if word == "0":
        return True
    figures = word[1:] if word.startswith("-") else word
    if figures == "" or len(figures) > MOST_FIGURES:
        return False
    # 0 alone was let through above, so a nought ahead is a needless one, or that of -0.
    if figures.startswith("0"):
        return False
    return all([sign in FIGURES for sign in figures])


def read_number(word):
    # int would take blanks, a + and noughts ahead too.
    if not is_number(word):
        raise BadText("a number is 1 to 7 figures without a needless nought, with - ahead where it is below nought")
    return int(word)


def read_point(word):
    parts = word.split(",")
    if len(parts) != 2:
        raise BadText("a point is its x, a comma and its y")
    return (read_number(parts[0]), read_number(parts[1]))


def read(text):
    points = [read_point(word) for word in text.split(" ")]
    if not are_points(points):
        raise BadText("points are 2 to 20 points within 10 ** 6 of nought, none twice")
    return points
